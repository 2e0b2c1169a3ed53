/-
  The law FontWrites: for every input it returns true and leaves its arguments as they read, the package's tables being what the text lays.
-/
import Derived.Test.YteckkcpnfeoehaaGreatDoorFpF
import Derived.Test.YteckkcpnfeoehaaGreatDoorMpR
import Derived.Test.YteckkcpnfeoehaaGreatDoorCards
import Derived.Test.YteckkcpnfeoehaaGreatDoorTie
import Derived.Test.YteckkcpnfeoehaaGreatDoorKit6
import Derived.Lib.SmallJoins
import Derived.Deep.DeepHandedRow
import Derived.Lib.LaidTab
import Derived.Stop.LaidErr
namespace Go.Proofs.YteckkcpnfeoehaaGreatDoor.fontWrites
open Go.ChangeShapes Go.WideShapes Go.ChangeAt Go.RowKit Go.Joins
set_option linter.unusedVariables false

theorem own : ownKnob Tryz.prog.godebug = none := by kernel_rfl
theorem laidOut : laidOutB Tryz.prog = true := by kernel_rfl
theorem cells_int : Tryz.prog.cellsOf 3 = 1 := by kernel_rfl
theorem g0 : Tryz.prog.globalNamed "calamus/head.boxAt" = some 0 := by kernel_rfl
theorem gt0 : (Tryz.prog.globals[0]?).map (·.type) = some 120 := by kernel_rfl
theorem gc0 : Tryz.prog.cellsOf 120 = 4 := by kernel_rfl
theorem g1 : Tryz.prog.globalNamed "calamus/head.maxpAt" = some 1 := by kernel_rfl
theorem gt1 : (Tryz.prog.globals[1]?).map (·.type) = some 121 := by kernel_rfl
theorem gc1 : Tryz.prog.cellsOf 121 = 7 := by kernel_rfl
theorem at_lt {W : World} {b o : Nat} {v : Value} (h : W.cell? ⟨b, o, none⟩ = some v) : b < W.heap.size := by
  rcases Nat.lt_or_ge b W.heap.size with hlt | hge
  · exact hlt
  · simp [World.cell?, Array.getElem?_eq_none hge] at h
theorem tables {W : World} (h : laidMet Tryz.prog Rows.fontWritesRow.laid W) : Tabs W := by
  have h0 : Lib.TabIs Tryz.prog W "calamus/head.boxAt" .i64 [36, 38, 40, 42] := Lib.tabIs_of_head g0 gt0 Tryz.underlying120 Tryz.underlying3 cells_int gc0 h
  have c0_0 := h0.cell g0 0 (by decide)
  have c0_1 := h0.cell g0 1 (by decide)
  have c0_2 := h0.cell g0 2 (by decide)
  have c0_3 := h0.cell g0 3 (by decide)
  have h1 : Lib.TabIs Tryz.prog W "calamus/head.maxpAt" .i64 [4, 6, 8, 10, 12, 28, 30] := Lib.tabIs_of_head g1 gt1 Tryz.underlying121 Tryz.underlying3 cells_int gc1 h.tail
  have c1_0 := h1.cell g1 0 (by decide)
  have c1_1 := h1.cell g1 1 (by decide)
  have c1_2 := h1.cell g1 2 (by decide)
  have c1_3 := h1.cell g1 3 (by decide)
  have c1_4 := h1.cell g1 4 (by decide)
  have c1_5 := h1.cell g1 5 (by decide)
  have c1_6 := h1.cell g1 6 (by decide)
  have l0 := at_lt c0_0
  have l1 := at_lt c1_0
  exact ⟨by omega, ⟨c0_0, c0_1, c0_2, c0_3⟩, c1_0, c1_1, c1_2, c1_3, c1_4, c1_5, c1_6⟩

set_option maxRecDepth 100000 in
theorem contract (H : Type) (enc : TypeId × Value → H) (W0 : World) (base : Nat) (args : Array Value) (ds gs : List (DataW H)) (before : List MemPlace)
    (hval : ∀ (j : Nat) t v, Tryz.f3.params[j]? = some t → args[j]? = some v → Value.okWide Tryz.prog W0 .any base t v)
    (hW : DataW.Whole enc Tryz.prog Tryz.f3.params.toList Rows.fontWritesSpec.vars false W0 args.toList ds gs before) (hL : laidMet Tryz.prog Rows.fontWritesRow.laid W0)
    (hsz : (DataW.weightsEach Tryz.prog (Tryz.f3.params.toList ++ Rows.fontWritesSpec.plain.varTypes Tryz.prog) (ds ++ gs)).all (· ≤ reachBytes) = true) :
    Calls Tryz.prog 3 args W0 fun e W' => ∃ v, e = .returned v ∧ Rows.fontWritesSpec.post enc Tryz.prog Tryz.f3 false true false false W0 args v W' := by
  have hTB := tables hL
  have hW' := hW
  obtain ⟨p, q, hA0, hV, rfl, hfz, hnd⟩ := hW
  have hA : DataW.TrodAll enc Tryz.prog W0 0 (fun _ => true) true Tryz.f3.params.toList args.toList ds p := hA0
  rw [Tryz.params3] at hA hval hsz
  obtain ⟨v0, vs0, d0, ds0, p0, q0, hargs, rfl, rfl, h0, r0⟩ := trodAll_cons hA
  obtain ⟨rfl, rfl, rfl⟩ := trodAll_nil r0
  obtain rfl : args = #[v0] := by cases args; simp_all
  obtain ⟨rfl, rfl⟩ := trodVars_none hV
  clear hA0
  have hlt := hW'.lt
  obtain ⟨x0, F0, rfl, hI0⟩ := open_font (hval 0 30 v0 rfl rfl) h0 (fun x hx => hlt x (by simp [hx]))
  simp only [List.append_nil] at hW'
  have C : Calls Tryz.prog 3 #[.agg (fnV x0 F0)] W0 fun e w' => e = .returned (.bool true) ∧ Since W0 w' := by
    exact walk_fontwrites x0 F0 _ rfl W0 hTB hI0
  refine C.mono fun e W' ⟨he, hS⟩ => ?_
  subst he
  exact ⟨_, rfl, post_true laidOut (by kernel_rfl) (by simpa only [List.append_nil] using hW') rfl rfl Tryz.underlying4 rfl rfl rfl hS⟩

def laid0 : Obj → Obj
  | .cells _ t frozen => .cells #[.int .i64 36, .int .i64 38, .int .i64 40, .int .i64 42] t frozen
  | o => o
def laid1 : Obj → Obj
  | .cells _ t frozen => .cells #[.int .i64 4, .int .i64 6, .int .i64 8, .int .i64 10, .int .i64 12, .int .i64 28, .int .i64 30] t frozen
  | o => o
noncomputable def laidWorld (os : Os) : World :=
  { World.holding Tryz.prog os ⟨#[], #[], []⟩ with heap := ((World.holding Tryz.prog os ⟨#[], #[], []⟩).heap.modify 0 laid0).modify 1 laid1 }
theorem laid_met (os : Os) : laidMet Tryz.prog Rows.fontWritesRow.laid ((laidWorld os).forCall (fun _ _ => 0) ⟨#[], #[.agg #[.slice none 0 0, .int .i64 0, .int .i64 0, .int .i64 0, .int .i64 0, .int .i64 0, .bool false, .int .i64 0, .int .i64 0, .int .i64 0, .int .i64 0, .int .i64 0, .int .i64 0, .int .i64 0, .slice none 0 0, .int .i64 0, .slice none 0 0]], []⟩).memory :=
  laidMet_of_run' 8 (by kernel_rfl) (by kernel_rfl)
theorem reads (os : Os) {H : Type} (enc : TypeId × Value → H) : ∃ places, DataW.whole enc Tryz.prog ((laidWorld os).forCall (fun _ _ => 0) ⟨#[], #[.agg #[.slice none 0 0, .int .i64 0, .int .i64 0, .int .i64 0, .int .i64 0, .int .i64 0, .bool false, .int .i64 0, .int .i64 0, .int .i64 0, .int .i64 0, .int .i64 0, .int .i64 0, .int .i64 0, .slice none 0 0, .int .i64 0, .slice none 0 0]], []⟩).memory Tryz.f3.params.toList Rows.fontWritesSpec.vars false (#[.agg #[.slice none 0 0, .int .i64 0, .int .i64 0, .int .i64 0, .int .i64 0, .int .i64 0, .bool false, .int .i64 0, .int .i64 0, .int .i64 0, .int .i64 0, .int .i64 0, .int .i64 0, .int .i64 0, .slice none 0 0, .int .i64 0, .slice none 0 0]] : Array Value).toList 8 = some ([.agg [.nil, .agg [.lit (.int .i64 0), .lit (.int .i64 0), .lit (.int .i64 0), .lit (.int .i64 0), .lit (.int .i64 0), .lit (.bool false)], .agg [.lit (.int .i64 0), .lit (.int .i64 0), .lit (.int .i64 0), .lit (.int .i64 0), .lit (.int .i64 0), .lit (.int .i64 0), .lit (.int .i64 0)], .nil, .lit (.int .i64 0), .nil]], [], places) :=
  ⟨[], by kernel_rfl⟩

set_option maxRecDepth 100000 in
theorem lifted (os : Os) (started : os.Started) (H : Type) (enc : TypeId × Value → H) (F : Stop.Interp) :
    ReturnsInHanded {} Tryz.checked os 3 .any ((OpenSpec.ofChange Rows.fontWritesSpec).preRow enc Tryz.prog Tryz.f3 Rows.fontWritesRow.domain false Rows.fontWritesRow.laid) (((OpenSpec.ofChange Rows.fontWritesSpec).at F).post enc Tryz.prog Tryz.f3 false true false false) := by
  obtain ⟨places, hx⟩ := reads os enc
  refine returnsInHanded_of_row (C := Tryz.checked) (s := OpenSpec.ofChange Rows.fontWritesSpec) own started (by kernel_rfl) Tryz.func3
    (witness_row_at (enc := enc) (C := Tryz.checked) false (laidWorld os) #[.agg #[.slice none 0 0, .int .i64 0, .int .i64 0, .int .i64 0, .int .i64 0, .int .i64 0, .bool false, .int .i64 0, .int .i64 0, .int .i64 0, .int .i64 0, .int .i64 0, .int .i64 0, .int .i64 0, .slice none 0 0, .int .i64 0, .slice none 0 0]] rfl (by kernel_rfl) (by kernel_rfl) (by kernel_rfl)
      (OpenSpec.preRow_of_cond 8 hx (by kernel_rfl) (fun k hk => by cases hk) (by kernel_rfl) (laid_met os))) ?_
  intro W base args ds gs before hval hW _ hcnd hszz hL _ _
  exact contract H enc W base args ds gs before hval hW hL hszz

theorem said : Rows.FontWritesSaid :=
  OpenClaim.holds_of_cond 3 Tryz.f3 rfl rfl rfl rfl rfl rfl rfl ⟨rfl, rfl, rfl, rfl, rfl⟩ rfl rfl rfl rfl rfl (by kernel_rfl) Tryz.func3 (by kernel_rfl)
    (of_decide_eq_true (by kernel_rfl)) (by unfold Func.isWrapper; first | (rw [if_pos (by decide +kernel)]; kernel_rfl) | (rw [if_neg (by decide +kernel)]; exact ⟨rfl, rfl⟩))
    (fun os started H enc _ F => by rw [OpenClaim.pre_eq_preRow]; exact lifted os started H enc F)

theorem plain (f : FuncId) (fn : Func) (hf : Tryz.pinned.checked.prog.funcNamed "calamus/calamuslaw09.FontWrites" = some f) (hfn : Tryz.pinned.checked.prog.funcs[f]? = some fn) :
    false = Tryz.pinned.checked.prog.looks [] ∧ ∀ (j : Nat) t, fn.params[j]? = some t → Tryz.pinned.checked.prog.wantsStandIn t = false := by
  obtain rfl : f = 3 := Option.some.inj ((show Tryz.prog.funcNamed "calamus/calamuslaw09.FontWrites" = some 3 by kernel_rfl).symm.trans hf) |>.symm
  obtain rfl : fn = Tryz.f3 := (Option.some.inj (Tryz.func3.symm.trans hfn)).symm
  refine ⟨by kernel_rfl, fun j t ht => ?_⟩
  rw [Tryz.params3] at ht
  have hall : ∀ x ∈ [30], Tryz.prog.wantsStandIn x = false := by
    intro x hx
    simp only [List.mem_cons, List.not_mem_nil, or_false] at hx
    rcases hx with rfl
    · exact (show Tryz.prog.wantsStandIn 30 = false by kernel_rfl)
  exact hall t (by have := Array.mem_of_getElem? ht; simpa using this)

theorem proved : Rows.FontWritesCardSaid :=
  Claim7.holds_tied_plain_at .later [] _ _ _ _ said (fun _ h => by cases h) (by kernel_rfl) (fun _ h => by cases h) fontWrites_row_tie rfl ⟨rfl, rfl⟩ (by kernel_rfl) rfl plain (by kernel_rfl)
end Go.Proofs.YteckkcpnfeoehaaGreatDoor.fontWrites
