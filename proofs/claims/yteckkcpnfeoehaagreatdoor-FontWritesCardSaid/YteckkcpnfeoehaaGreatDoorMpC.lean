/-
  Texts of this seat, put together: each with its own head.
-/
import Derived.Test.YteckkcpnfeoehaaGreatDoorMnAa
import Derived.Deep.MidRow
import Derived.Test.YteckkcpnfeoehaaGreatDoorMnAd
import Derived.Test.YteckkcpnfeoehaaGreatDoorMnAi
import Derived.Deep.QuietTactic
import Derived.BigQuiet

/-
  A region that stores into one own block while all else stays ('sx_'); rows of one and of two whole numbers.
-/
namespace Go.Proofs.YteckkcpnfeoehaaGreatDoor
set_option maxRecDepth 100000
open Go.RowKit
set_option linter.unusedVariables false

section
variable {P : Program} {fn : Func} {R : Ending → World → Prop} {a : Act} {w : World}
/-- The end of a function whose one result is a struct in memory. -/
theorem ret_agg {p ty : Nat} {b : Nat} {cs : List Value} {d : TypeDesc} (hf : fn.results = #[.cell p ty]) (hp : a.tmps.getD p undef = .pointer (some ⟨b, 0, none⟩)) (hc : w.rangeAt b 0 cs)
    (hu : P.underlying ty = some d) (hd : d.isRow = true) (hi : (P.info? ty).map (·.size) = some cs.length) (hdf : a.defers = []) (hR : R (.returned (.agg cs.toArray)) w) : bodyPost P fn R .ret a w := by
  refine bodyPost_ret (v := .agg cs.toArray) ?_ hdf hR
  simp only [results, hf]
  have hl := run_loadVar_mid (P := P) w b 0 ty cs d hc hu hd hi
  have hp' : a.tmps[p]?.getD undef = .pointer (some ⟨b, 0, none⟩) := by simpa using hp
  simp [hp', asAddr, hl]
/-- .. and a number behind it. -/
theorem ret_agg_tmp {p q ty : Nat} {b : Nat} {cs : List Value} {d : TypeDesc} {x : Value} (hf : fn.results = #[.cell p ty, .tmp q]) (hp : a.tmps.getD p undef = .pointer (some ⟨b, 0, none⟩)) (hc : w.rangeAt b 0 cs)
    (hu : P.underlying ty = some d) (hd : d.isRow = true) (hi : (P.info? ty).map (·.size) = some cs.length) (hq : a.tmps.getD q undef = x) (hdf : a.defers = []) (hR : R (.returned (.tuple #[.agg cs.toArray, x])) w) : bodyPost P fn R .ret a w := by
  refine bodyPost_ret (v := .tuple #[.agg cs.toArray, x]) ?_ hdf hR
  simp only [results, hf]
  have hl := run_loadVar_mid (P := P) w b 0 ty cs d hc hu hd hi
  have hp' : a.tmps[p]?.getD undef = .pointer (some ⟨b, 0, none⟩) := by simpa using hp
  have hq' : a.tmps[q]?.getD undef = x := by simpa using hq
  simp [hp', asAddr, hl, hq']
end
end Go.Proofs.YteckkcpnfeoehaaGreatDoor

/-
  Layer 2: 'Cut', walked, program and reference.
-/
namespace Go.Proofs.YteckkcpnfeoehaaGreatDoor
set_option maxRecDepth 100000
open Go.RowKit
set_option linter.unusedVariables false

def cutE (n : Nat) (i k : Int) : Int := if 0 ≤ k ∧ Fits n i k then 0 else 3
def cutN (n : Nat) (i k : Int) : Nat := if 0 ≤ k ∧ Fits n i k then k.toNat else 0
theorem cut_no {n : Nat} {i k : Int} (h : ¬ (0 ≤ k ∧ Fits n i k)) : cutE n i k = 3 ∧ cutN n i k = 0 := by simp [cutE, cutN, h]
theorem cut_yes {n : Nat} {i k : Int} (h : 0 ≤ k ∧ Fits n i k) : cutE n i k = 0 ∧ cutN n i k = k.toNat := by simp [cutE, cutN, h]
/-- What a cut leaves. -/
def CutPost (f : Nat → Int) (n : Nat) (i k : Int) (w : World) (e : Ending) (w' : World) : Prop := ∃ A' m cap, e = .returned (.tuple #[.slice A' m cap, .int .i64 (cutE n i k)]) ∧ m = cutN n i k ∧ m ≤ cap ∧ Nw w' w.heap.size A' m (U8 (fun j => f (i.toNat + j))) ∧ Since w w'

set_option maxRecDepth 100000 in
set_option maxHeartbeats 4000000 in
theorem be_cut (A : Option Addr) (n c : Nat) (f : Nat → Int) (i k : Int) (w : World) (h : Rd w w.heap.size A n (U8 f)) (hi : In64 i) (hk : In64 k) (hn : n ≤ 140737488355328) (hnc : n ≤ c) :
    Calls Tryz.prog 123 #[.slice A n c, .int .i64 i, .int .i64 k] w (CutPost f n i k w) := by
  obtain ⟨i0, hi0, hz0, hz1, hz2⟩ := info_parts Tryz.info_u8
  by_cases h0 : k < 0
  · have d1 : decide (k < 0) = true := by simpa using h0
    obtain ⟨e1, e2⟩ := cut_no (n := n) (i := i) (k := k) (by omega)
    have E1 := Lib.hid e1; have E2 := Lib.hid e2; clear e1 e2 h h0
    go_enter Tryz.func123, Tryz.ntmps123
    go_wp2
    go_ret2
    exact ⟨none, 0, 0, by rw [E1.out]; rfl, E2.out.symm, Nat.le_refl _, Nw.zero, Since.refl _⟩
  have d0 : decide (k < 0) = false := by simpa using h0
  by_cases h3 : Fits n i k
  · have d3 : decide (Fits n i k) = true := by simpa using h3
    obtain ⟨p, rfl⟩ : ∃ p : Nat, i = p := ⟨i.toNat, by have := h3.1; omega⟩
    obtain ⟨m, rfl⟩ : ∃ m : Nat, k = m := ⟨k.toNat, by omega⟩
    have h4 : p + m ≤ n := by have := h3.2.2; omega
    obtain ⟨e1, e2⟩ := cut_yes (n := n) (i := p) (k := m) ⟨by omega, h3⟩
    have E1 := Lib.hid e1; have E2 := Lib.hid e2; clear e1 e2 h0
    have hp : (p : Int) ≤ n := by omega
    have hmn : (m : Int) ≤ n := by omega
    have b1 : 1 * m ≤ 281474976710656 := by omega
    have b2 : m ≤ maxLen := by simp only [maxLen]; omega
    have hD := h.drop (k := p) (cap := c) (m := n - p) (by omega) hnc
    have hmin : m = Nat.min (n - p) m := (Nat.min_eq_right (by omega)).symm
    have HM := Lib.hid hmin; clear hmin
    clear h3 h
    go_enter Tryz.func123, Tryz.ntmps123
    go_wp2_with (first | (go_at_call 122; refine (be_holds _ n c p m w hi hk hn).mono ?_; rintro e w2 ⟨rfl, rfl⟩) | (at_make; refine wpList_make_tab _ (by rfl) _ _ _ (by rfl) 5 i0 .u8 1 Tryz.underlying34 hi0 hz0 hz1 hz2 .i64 .i64 m (by rfl) (by rfl) b1 b2 ?_; intro w1 hown1 hS1; have hall1 := All.of_own hown1; have hA1 := hD.since (Nat.le_refl _) hS1; clear hown1) | (refine wpList_copy_all (by rfl) _ _ _ _ (by rfl) 5 Tryz.underlying34 Tryz.size_u8' _ _ m m _ _ (by rfl) (by rfl) w2.heap.size 0 m m 5 _ _ hall1 w2.heap.size hA1 HM.out (fun _ => rfl) (by omega) tab_ones w2 hS1 (Nat.le_refl _) ?_; intro w3 hall3 hS3; clear hall1 hA1 hS1))
    all_goals
      go_ret2
      refine ⟨_, m, m, by rw [E1.out]; rfl, E2.out.symm, Nat.le_refl _, fun _ => ⟨_, rfl, Nat.le_refl _, (hall3.congr (fun j hj => ?_)).row⟩, hS3⟩
      simp only [U8, IntRow, Nat.zero_le, true_and, Nat.zero_add, Nat.sub_zero, if_pos hj]
      rfl
  · have d3 : decide (Fits n i k) = false := by simpa using h3
    obtain ⟨e1, e2⟩ := cut_no (n := n) (i := i) (k := k) (by simp [h3])
    have E1 := Lib.hid e1; have E2 := Lib.hid e2; clear e1 e2 h h0 h3
    go_enter Tryz.func123, Tryz.ntmps123
    go_wp2_with (go_at_call 122; refine (be_holds _ n c i k w hi hk hn).mono ?_; rintro e w2 ⟨rfl, rfl⟩)
    go_ret2
    exact ⟨none, 0, 0, by rw [E1.out]; rfl, E2.out.symm, Nat.le_refl _, Nw.zero, Since.refl _⟩

end Go.Proofs.YteckkcpnfeoehaaGreatDoor

/-
  Layer 8: readMatrix, readCode, walked.
-/
namespace Go.Proofs.YteckkcpnfeoehaaGreatDoor
set_option maxRecDepth 100000
open Go.RowKit Go.ChangeShapes Go.WideShapes Go.Deep
set_option linter.unusedVariables false

end Go.Proofs.YteckkcpnfeoehaaGreatDoor
