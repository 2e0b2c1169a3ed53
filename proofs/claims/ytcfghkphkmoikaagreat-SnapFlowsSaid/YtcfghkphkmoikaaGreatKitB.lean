/-
  A region that stores into one own block while all else stays ('sx_'); rows of one and of two whole numbers.
-/
import Derived.Test.YtcfghkphkmoikaaGreatKit2
import Derived.Deep.MidRow
namespace Go.Proofs.YtcfghkphkmoikaaGreat
set_option maxRecDepth 100000
open Go.RowKit
set_option linter.unusedVariables false

theorem sx_start {r m : Nat} {w w0 : World} (hS : Since w w0) (h : ∀ o, o < m → (w0.cell? ⟨r, o, none⟩).isSome = true) : (∀ b o, b < w0.heap.size → b ≠ r → w0.cell? ⟨b, o, none⟩ = w0.cell? ⟨b, o, none⟩) ∧ (∀ b o, b < w0.heap.size → w0.frozen? ⟨b, o, none⟩ = w0.frozen? ⟨b, o, none⟩) ∧ (∀ k, k < w0.heap.size → k < w0.heap.size) ∧ Since w w0 ∧ (∀ o, o < m → w0.cell? ⟨r, o, none⟩ = some (cellD w0 r o)) :=
  ⟨fun _ _ _ _ => rfl, fun _ _ _ => rfl, fun _ h => h, hS, fun o ho => cellD_of (h o ho)⟩
theorem sx_step {r m : Nat} {w w0 w1 w2 : World} (hr : r < w0.heap.size) (h : (∀ b o, b < w0.heap.size → b ≠ r → w1.cell? ⟨b, o, none⟩ = w0.cell? ⟨b, o, none⟩) ∧ (∀ b o, b < w0.heap.size → w1.frozen? ⟨b, o, none⟩ = w0.frozen? ⟨b, o, none⟩) ∧ (∀ k, k < w0.heap.size → k < w1.heap.size) ∧ Since w w1 ∧ (∀ o, o < m → w1.cell? ⟨r, o, none⟩ = some (cellD w1 r o))) (k : Since w1 w2) :
    (∀ b o, b < w0.heap.size → b ≠ r → w2.cell? ⟨b, o, none⟩ = w0.cell? ⟨b, o, none⟩) ∧ (∀ b o, b < w0.heap.size → w2.frozen? ⟨b, o, none⟩ = w0.frozen? ⟨b, o, none⟩) ∧ (∀ k, k < w0.heap.size → k < w2.heap.size) ∧ Since w w2 ∧ (∀ o, o < m → w2.cell? ⟨r, o, none⟩ = some (cellD w2 r o)) := by
  obtain ⟨h1, h2, h3, h4, h5⟩ := h
  exact ⟨fun b o hb hne => (k.1 b o (h3 b hb)).trans (h1 b o hb hne), fun b o hb => (k.2.1 b o (h3 b hb)).trans (h2 b o hb), fun j hj => k.2.2.1 j (h3 j hj), h4.trans k, fun o ho => cellD_of (by rw [k.1 r o (h3 r hr), h5 o ho]; rfl)⟩
theorem sx_set {r m : Nat} {w w0 w1 : World} (hr : w.heap.size ≤ r) (h : (∀ b o, b < w0.heap.size → b ≠ r → w1.cell? ⟨b, o, none⟩ = w0.cell? ⟨b, o, none⟩) ∧ (∀ b o, b < w0.heap.size → w1.frozen? ⟨b, o, none⟩ = w0.frozen? ⟨b, o, none⟩) ∧ (∀ k, k < w0.heap.size → k < w1.heap.size) ∧ Since w w1 ∧ (∀ o, o < m → w1.cell? ⟨r, o, none⟩ = some (cellD w1 r o))) (j : Nat) (v : Value) :
    (∀ b o, b < w0.heap.size → b ≠ r → (w1.setCell ⟨r, j, none⟩ v).cell? ⟨b, o, none⟩ = w0.cell? ⟨b, o, none⟩) ∧ (∀ b o, b < w0.heap.size → (w1.setCell ⟨r, j, none⟩ v).frozen? ⟨b, o, none⟩ = w0.frozen? ⟨b, o, none⟩) ∧ (∀ k, k < w0.heap.size → k < (w1.setCell ⟨r, j, none⟩ v).heap.size) ∧ Since w (w1.setCell ⟨r, j, none⟩ v) ∧ (∀ o, o < m → (w1.setCell ⟨r, j, none⟩ v).cell? ⟨r, o, none⟩ = some (cellD (w1.setCell ⟨r, j, none⟩ v) r o)) := by
  obtain ⟨h1, h2, h3, h4, h5⟩ := h
  refine ⟨fun b o hb hne => ?_, fun b o hb => (World.frozen?_setCell _ _ _ _).trans (h2 b o hb), fun k hk => by simpa [World.setCell] using h3 k hk, h4.setCell hr _, fun o ho => ?_⟩
  · rw [cell_set, if_neg (by omega)]; exact h1 b o hb hne
  · refine cellD_of ?_
    rw [cell_set, h5 o ho]
    split <;> rfl

def Pf (x y : Int) (j : Nat) : Value := if j = 0 then .int .i64 x else .int .i64 y
theorem prow (w : World) (b : Nat) (hb : b = w.heap.size) (t : TypeId) (x y : Int) : Row (w.alloc (.cells #[.int .i64 x, .int .i64 y] t)) b 2 (Pf x y) := by
  subst hb
  refine Row.of_cells fun j hj => ?_
  have h : j = 0 ∨ j = 1 := by omega
  rcases h with rfl | rfl <;> rfl
theorem pput {w : World} {b : Nat} {u v : Int} (h : Row w b 2 (Pf u v)) (x y : Int) : Row ((w.setCell ⟨b, 0, none⟩ (.int .i64 x)).setCell ⟨b, 1, none⟩ (.int .i64 y)) b 2 (Pf x y) := by
  refine ((h.set 0 _).set 1 _).congr fun j hj => ?_
  have hh : j = 0 ∨ j = 1 := by omega
  rcases hh with rfl | rfl <;> rfl
theorem pcells {w : World} {b : Nat} {x y : Int} (h : Row w b 2 (Pf x y)) : w.cell? ⟨b, 0, none⟩ = some (.int .i64 x) ∧ w.cell? ⟨b, 1, none⟩ = some (.int .i64 y) ∧ b < w.heap.size := ⟨h.1 0 (by omega), h.1 1 (by omega), h.2.2⟩
theorem pput0 {w : World} {b : Nat} (h : Row w b 2 (Pf 0 0)) (x y : Int) : Row ((w.setCell ⟨b, 0, none⟩ (.int .i64 x)).setCell ⟨b, 1, none⟩ (.int .i64 y)) b 2 (Pf x y) := pput h x y
def Of (v : Value) (_ : Nat) : Value := v
theorem orow (w : World) (b : Nat) (hb : b = w.heap.size) (t : TypeId) (v : Value) : Row (w.alloc (.cells #[v] t)) b 1 (Of v) := by
  subst hb
  refine Row.of_cells fun j hj => ?_
  obtain rfl : j = 0 := by omega
  rfl
theorem oput {w : World} {b : Nat} {u : Value} (h : Row w b 1 (Of u)) (v : Value) : Row (w.setCell ⟨b, 0, none⟩ v) b 1 (Of v) := by
  refine (h.set 0 _).congr fun j hj => ?_
  obtain rfl : j = 0 := by omega
  rfl
theorem oput0 {w : World} {b : Nat} (h : Row w b 1 (Of (.int .i64 0))) (v : Value) : Row (w.setCell ⟨b, 0, none⟩ v) b 1 (Of v) := oput h v
theorem ocell {w : World} {b : Nat} {v : Value} (h : Row w b 1 (Of v)) : w.cell? ⟨b, 0, none⟩ = some v ∧ b < w.heap.size := ⟨h.1 0 (by omega), h.2.2⟩
/-- A row's cells as a range. -/
theorem row_range {w : World} {b n : Nat} {f : Nat → Value} (h : Row w b n f) (cs : List Value) (he : ∀ j v, cs[j]? = some v → j < n ∧ v = f j) : w.rangeAt b 0 cs := fun j v hv => by
  obtain ⟨h1, rfl⟩ := he j v hv
  rw [Nat.zero_add]
  exact h.1 j h1
section
variable {P : Program} {fn : Func} {R : Ending → World → Prop} {a : Act} {w : World}
/-- The end of a function whose one result is a struct in memory. -/
theorem ret_agg {p ty : Nat} {b : Nat} {cs : List Value} {d : TypeDesc} (hf : fn.results = #[.cell p ty]) (hp : a.tmps.getD p undef = .pointer (some ⟨b, 0, none⟩)) (hc : w.rangeAt b 0 cs)
    (hu : P.underlying ty = some d) (hd : d.isRow = true) (hi : (P.info? ty).map (·.size) = some cs.length) (hdf : a.defers = []) (hR : R (.returned (.agg cs.toArray)) w) : bodyPost P fn R .ret a w := by
  refine bodyPost_ret (v := .agg cs.toArray) ?_ hdf hR
  simp only [results, hf]
  have hl := run_loadVar_mid (P := P) w b 0 ty cs d hc hu hd hi
  have hp' : a.tmps[p]?.getD undef = .pointer (some ⟨b, 0, none⟩) := by simpa using hp
  simp [hp', asAddr, hl]
/-- .. and a number behind it. -/
theorem ret_agg_tmp {p q ty : Nat} {b : Nat} {cs : List Value} {d : TypeDesc} {x : Value} (hf : fn.results = #[.cell p ty, .tmp q]) (hp : a.tmps.getD p undef = .pointer (some ⟨b, 0, none⟩)) (hc : w.rangeAt b 0 cs)
    (hu : P.underlying ty = some d) (hd : d.isRow = true) (hi : (P.info? ty).map (·.size) = some cs.length) (hq : a.tmps.getD q undef = x) (hdf : a.defers = []) (hR : R (.returned (.tuple #[.agg cs.toArray, x])) w) : bodyPost P fn R .ret a w := by
  refine bodyPost_ret (v := .tuple #[.agg cs.toArray, x]) ?_ hdf hR
  simp only [results, hf]
  have hl := run_loadVar_mid (P := P) w b 0 ty cs d hc hu hd hi
  have hp' : a.tmps[p]?.getD undef = .pointer (some ⟨b, 0, none⟩) := by simpa using hp
  have hq' : a.tmps[q]?.getD undef = x := by simpa using hq
  simp [hp', asAddr, hl, hq']
end
end Go.Proofs.YtcfghkphkmoikaaGreat
