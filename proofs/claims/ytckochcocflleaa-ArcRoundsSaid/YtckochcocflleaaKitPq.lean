/-
  Lists of points: what they are in memory, a point more where it isn't the last one, a captured list.
-/
import Derived.Test.YtckochcocflleaaKitG
import Derived.Test.YtckochcocflleaaKitB
namespace Go.Proofs.Ytckochcocflleaa
open Go.RowKit Go.ChangeShapes Go.WideShapes Go.Deep
set_option linter.unusedVariables false

/-- A point. -/
structure Pq where
  (x y : Int)
def ptL (p : Pq) : List Value := [.int .i64 p.x, .int .i64 p.y]
theorem ptL_len (p : Pq) : (ptL p).length = 2 := rfl
theorem ptL_one (p : Pq) : ∀ u ∈ ptL p, u.oneCell' = true := by
  intro u hu
  simp only [ptL, List.mem_cons, List.not_mem_nil, or_false] at hu
  rcases hu with rfl | rfl <;> rfl
def addP (L : List Pq) (p : Pq) : List Pq := match L.getLast? with
  | some l => if l.x == p.x && l.y == p.y then L else L ++ [p]
  | none => L ++ [p]
theorem infoPt0 : (Try.prog.info? 34).map (fun i => (i.zero, i.size, i.bytes)) = some (some (.agg #[.int .i64 0, .int .i64 0]), 2, 16) := by kernel_rfl
theorem infoPt : ∃ i z, Try.prog.info? 34 = some i ∧ i.zero = some z ∧ i.size = 2 ∧ i.bytes = 16 ∧ z.cells.size = 2 := by
  obtain ⟨i0, hi, hz0, hz1, hz2⟩ := info_parts infoPt0
  exact ⟨i0, _, hi, hz0, hz1, hz2, rfl⟩
theorem pt_one (w : World) (b : Nat) (hb : b = w.heap.size) (ty : TypeId) (p : Pq) : RdG 2 ptL (w.alloc (.cells #[.int .i64 p.x, .int .i64 p.y] ty)) (w.alloc (.cells #[.int .i64 p.x, .int .i64 p.y] ty)).heap.size (some ⟨b, 0, none⟩) [p] :=
  rdG_one hb p (fun i hi => by
    have h : i = 0 ∨ i = 1 := by omega
    rcases h with rfl | rfl <;> rfl)
def lastNe (L : List Pq) (p : Pq) : Bool := match L.getLast? with
  | some l => !(l.x == p.x && l.y == p.y)
  | none => true
theorem addP_eq (L : List Pq) (p : Pq) : addP L p = if lastNe L p then L ++ [p] else L := by
  unfold addP lastNe
  cases L.getLast? with
  | none => rfl
  | some l => by_cases h1 : l.x = p.x <;> by_cases h2 : l.y = p.y <;> simp [h1, h2]
/-- A captured list of points. -/
def CapP (w0 w : World) (bl : Nat) (L : List Pq) : Prop := ∃ v, w.heap[bl]? = some (Obj.cells #[v] 49 (0, 0)) ∧ OwnG 34 2 ptL w (bl + 1) v L ∧ Since w0 w ∧ w0.heap.size ≤ bl
theorem CapP.since {w0 w w' : World} {bl : Nat} {L : List Pq} (h : CapP w0 w bl L) (k : Since w w') : CapP w0 w' bl L := by
  obtain ⟨v, h1, h2, h3, h4⟩ := h
  have hlt : bl < w.heap.size := by
    rcases Nat.lt_or_ge bl w.heap.size with h | h
    · exact h
    · rw [Array.getElem?_eq_none h] at h1; cases h1
  exact ⟨v, (k.below.block bl hlt).trans h1, h2.since k, h3.trans k, h4⟩
/-- A row of another type is not the own block. -/
theorem OwnG.ne {α : Type} {enc : α → List Value} {t t' : TypeId} {k base b : Nat} {w : World} {v : Value} {L : List α} {cs : Array Value} (h : OwnG t k enc w base v L) (hne : t ≠ t') (hb : w.heap[b]? = some (Obj.cells cs t' (0, 0))) : v.ownBlock ≠ some b := by
  rcases h.2 with ⟨rfl, _⟩ | ⟨g, cap, cur, rfl, hb', hh, r⟩
  · simp [Value.ownBlock]
  · intro e
    simp only [Value.ownBlock, Option.some.injEq] at e
    subst e
    rw [hb] at hh
    simp only [Option.some.injEq, Obj.cells.injEq] at hh
    exact hne hh.2.1.symm
theorem OwnG.lower' {α : Type} {enc : α → List Value} {t : TypeId} {k base base' : Nat} {w : World} {v : Value} {L : List α} (h : OwnG t k enc w base v L) (hb : base' ≤ base) : OwnG t k enc w base' v L := by
  refine ⟨h.1, ?_⟩
  rcases h.2 with h0 | ⟨g, cap, cur, e1, hb', r⟩
  · exact .inl h0
  · exact .inr ⟨g, cap, cur, e1, by omega, r⟩
theorem addP_len (L : List Pq) (p : Pq) : (addP L p).length ≤ L.length + 1 := by
  rw [addP_eq]
  split <;> simp
end Go.Proofs.Ytckochcocflleaa
