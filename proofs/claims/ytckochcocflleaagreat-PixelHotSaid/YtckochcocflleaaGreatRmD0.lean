/-
  Layer 15's document: 'Meet', walked.
-/
import Derived.Test.YtckochcocflleaaGreatMgQ
import Derived.Test.YtckochcocflleaaGreatMgC
import Derived.Deep.CutBlock
import Derived.Deep.DeepCutAuto
import Derived.Deep.MidRow
namespace Go.Proofs.YtckochcocflleaaGreat
open Go.RowKit
set_option linter.unusedVariables false

theorem Since.setCells {a : World} {b : Nat} (hb : a.heap.size ≤ b) : ∀ (vs : List Value) (o : Nat) (w : World), Since a w → Since a (w.setCells b o vs)
  | [], _, _, h => h
  | v :: r, o, w, h => Since.setCells hb r (o + 1) _ (h.setCell hb v)
theorem row_there {w : World} {b n : Nat} {f : Nat → Value} (h : Row w b n f) : w.there b 0 n := fun j hj => by
  rw [Nat.zero_add]
  exact ⟨by rw [h.1 j hj]; rfl, h.2.1 j⟩
theorem cell_setCells_far {w : World} {b b' o' : Nat} {v : Value} (h : w.cell? ⟨b', o', none⟩ = some v) (hb : b' ≠ b) (o : Nat) (vs : List Value) : (w.setCells b o vs).cell? ⟨b', o', none⟩ = some v := by
  rw [World.cell?_setCells_out b vs o w ⟨b', o', none⟩ (fun e _ => absurd e hb)]; exact h
theorem cell_drewR (w : World) (a : Addr) : w.drew.cell? a = w.cell? a := rfl
theorem info_rp : (Tryz.prog.info? 64).map (·.size) = some 18 := by kernel_rfl
theorem one18 (k X Y d : Int) : (#[.int .i64 k, .int .u32 (dg X 0), .int .u32 (dg X 1), .int .u32 (dg X 2), .int .u32 (dg X 3), .int .u32 (dg X 4), .int .u32 (dg X 5), .int .u32 (dg X 6), .int .u32 (dg X 7), .int .u32 (dg Y 0), .int .u32 (dg Y 1), .int .u32 (dg Y 2), .int .u32 (dg Y 3), .int .u32 (dg Y 4), .int .u32 (dg Y 5), .int .u32 (dg Y 6), .int .u32 (dg Y 7), .int .i64 d] : Array Value).all (·.oneCell') = true := all_oneCell_toArray (cs := [.int .i64 k, .int .u32 (dg X 0), .int .u32 (dg X 1), .int .u32 (dg X 2), .int .u32 (dg X 3), .int .u32 (dg X 4), .int .u32 (dg X 5), .int .u32 (dg X 6), .int .u32 (dg X 7), .int .u32 (dg Y 0), .int .u32 (dg Y 1), .int .u32 (dg Y 2), .int .u32 (dg Y 3), .int .u32 (dg Y 4), .int .u32 (dg Y 5), .int .u32 (dg Y 6), .int .u32 (dg Y 7), .int .i64 d]) (by
  intro v hv
  simp only [List.mem_cons, List.not_mem_nil, or_false] at hv
  rcases hv with rfl | rfl | rfl | rfl | rfl | rfl | rfl | rfl | rfl | rfl | rfl | rfl | rfl | rfl | rfl | rfl | rfl | rfl <;> rfl)
theorem one18z (k : Int) : (#[.int .i64 k, .int .u32 0, .int .u32 0, .int .u32 0, .int .u32 0, .int .u32 0, .int .u32 0, .int .u32 0, .int .u32 0, .int .u32 0, .int .u32 0, .int .u32 0, .int .u32 0, .int .u32 0, .int .u32 0, .int .u32 0, .int .u32 0, .int .i64 0] : Array Value).all (·.oneCell') = true := all_oneCell_toArray (cs := [.int .i64 k, .int .u32 0, .int .u32 0, .int .u32 0, .int .u32 0, .int .u32 0, .int .u32 0, .int .u32 0, .int .u32 0, .int .u32 0, .int .u32 0, .int .u32 0, .int .u32 0, .int .u32 0, .int .u32 0, .int .u32 0, .int .u32 0, .int .i64 0]) (by
  intro v hv
  simp only [List.mem_cons, List.not_mem_nil, or_false] at hv
  rcases hv with rfl | rfl | rfl | rfl | rfl | rfl | rfl | rfl | rfl | rfl | rfl | rfl | rfl | rfl | rfl | rfl | rfl | rfl <;> rfl)
theorem rpput {w : World} {b : Nat} {p0 : Cp} (h : Row w b 18 (RPf p0)) (p : Cp) : Row ((((((((((((((((((w.setCell ⟨b, 0, none⟩ (.int .i64 p.k)).setCell ⟨b, 1, none⟩ (.int .u32 (dg p.x 0))).setCell ⟨b, 2, none⟩ (.int .u32 (dg p.x 1))).setCell ⟨b, 3, none⟩ (.int .u32 (dg p.x 2))).setCell ⟨b, 4, none⟩ (.int .u32 (dg p.x 3))).setCell ⟨b, 5, none⟩ (.int .u32 (dg p.x 4))).setCell ⟨b, 6, none⟩ (.int .u32 (dg p.x 5))).setCell ⟨b, 7, none⟩ (.int .u32 (dg p.x 6))).setCell ⟨b, 8, none⟩ (.int .u32 (dg p.x 7))).setCell ⟨b, 9, none⟩ (.int .u32 (dg p.y 0))).setCell ⟨b, 10, none⟩ (.int .u32 (dg p.y 1))).setCell ⟨b, 11, none⟩ (.int .u32 (dg p.y 2))).setCell ⟨b, 12, none⟩ (.int .u32 (dg p.y 3))).setCell ⟨b, 13, none⟩ (.int .u32 (dg p.y 4))).setCell ⟨b, 14, none⟩ (.int .u32 (dg p.y 5))).setCell ⟨b, 15, none⟩ (.int .u32 (dg p.y 6))).setCell ⟨b, 16, none⟩ (.int .u32 (dg p.y 7))).setCell ⟨b, 17, none⟩ (.int .i64 p.d)) b 18 (RPf p) := by
  refine ((((((((((((((((((h.set 0 _).set 1 _).set 2 _).set 3 _).set 4 _).set 5 _).set 6 _).set 7 _).set 8 _).set 9 _).set 10 _).set 11 _).set 12 _).set 13 _).set 14 _).set 15 _).set 16 _).set 17 _).congr fun j hj => ?_
  have hh : j = 0 ∨ j = 1 ∨ j = 2 ∨ j = 3 ∨ j = 4 ∨ j = 5 ∨ j = 6 ∨ j = 7 ∨ j = 8 ∨ j = 9 ∨ j = 10 ∨ j = 11 ∨ j = 12 ∨ j = 13 ∨ j = 14 ∨ j = 15 ∨ j = 16 ∨ j = 17 := by omega
  rcases hh with rfl | rfl | rfl | rfl | rfl | rfl | rfl | rfl | rfl | rfl | rfl | rfl | rfl | rfl | rfl | rfl | rfl | rfl <;> rfl
theorem far18 {w : World} {b q j : Nat} {v : Value} (hb : b ≠ q) (h : w.cell? ⟨q, j, none⟩ = some v) (v0 v1 v2 v3 v4 v5 v6 v7 v8 v9 v10 v11 v12 v13 v14 v15 v16 v17 : Value) : ((((((((((((((((((w.setCell ⟨b, 0, none⟩ (v0)).setCell ⟨b, 1, none⟩ (v1)).setCell ⟨b, 2, none⟩ (v2)).setCell ⟨b, 3, none⟩ (v3)).setCell ⟨b, 4, none⟩ (v4)).setCell ⟨b, 5, none⟩ (v5)).setCell ⟨b, 6, none⟩ (v6)).setCell ⟨b, 7, none⟩ (v7)).setCell ⟨b, 8, none⟩ (v8)).setCell ⟨b, 9, none⟩ (v9)).setCell ⟨b, 10, none⟩ (v10)).setCell ⟨b, 11, none⟩ (v11)).setCell ⟨b, 12, none⟩ (v12)).setCell ⟨b, 13, none⟩ (v13)).setCell ⟨b, 14, none⟩ (v14)).setCell ⟨b, 15, none⟩ (v15)).setCell ⟨b, 16, none⟩ (v16)).setCell ⟨b, 17, none⟩ (v17)).cell? ⟨q, j, none⟩ = some v := by
  rw [cell_set, if_neg (fun e => hb e.1), cell_set, if_neg (fun e => hb e.1), cell_set, if_neg (fun e => hb e.1), cell_set, if_neg (fun e => hb e.1), cell_set, if_neg (fun e => hb e.1), cell_set, if_neg (fun e => hb e.1), cell_set, if_neg (fun e => hb e.1), cell_set, if_neg (fun e => hb e.1), cell_set, if_neg (fun e => hb e.1), cell_set, if_neg (fun e => hb e.1), cell_set, if_neg (fun e => hb e.1), cell_set, if_neg (fun e => hb e.1), cell_set, if_neg (fun e => hb e.1), cell_set, if_neg (fun e => hb e.1), cell_set, if_neg (fun e => hb e.1), cell_set, if_neg (fun e => hb e.1), cell_set, if_neg (fun e => hb e.1), cell_set, if_neg (fun e => hb e.1)]; exact h
theorem ln2 {w : World} {q b : Nat} {l : Ln} (h : LnAt w q l) (hb : b ≠ q) (x y : Value) : LnAt ((w.setCell ⟨b, 0, none⟩ x).setCell ⟨b, 1, none⟩ y) q l := by
  obtain ⟨h1, h2, h3, h4, h5⟩ := h
  have e : ∀ o, ((w.setCell ⟨b, 0, none⟩ x).setCell ⟨b, 1, none⟩ y).cell? ⟨q, o, none⟩ = w.cell? ⟨q, o, none⟩ := fun o => by rw [cell_set, if_neg (fun h => hb h.1), cell_set, if_neg (fun h => hb h.1)]
  exact ⟨(e 0).trans h1, (e 1).trans h2, (e 2).trans h3, (e 3).trans h4, by simpa [World.setCell] using h5⟩
theorem Row.frz2 {w : World} {b n : Nat} {f : Nat → Value} (h : Row w b n f) : w.frozen? ⟨b, 0, none⟩ = false ∧ w.frozen? ⟨b, 1, none⟩ = false := ⟨h.2.1 0, h.2.1 1⟩
theorem pt_of_row {w : World} {b : Nat} {x y : Int} (h : Row w b 2 (Pf x y)) : PtAt w b x y := pcells h
set_option maxRecDepth 1000000 in
theorem ix4p (a b c d e f g h : Value) (w : World) : (Instr.index 89 (.agg #[a, b, c, d, e, f, g, h]) (.int .i64 0)).run Tryz.prog w = .ok (.agg #[a, b]) w ∧ (Instr.index 89 (.agg #[a, b, c, d, e, f, g, h]) (.int .i64 1)).run Tryz.prog w = .ok (.agg #[c, d]) w ∧ (Instr.index 89 (.agg #[a, b, c, d, e, f, g, h]) (.int .i64 2)).run Tryz.prog w = .ok (.agg #[e, f]) w ∧ (Instr.index 89 (.agg #[a, b, c, d, e, f, g, h]) (.int .i64 3)).run Tryz.prog w = .ok (.agg #[g, h]) w := ⟨by kernel_rfl, by kernel_rfl, by kernel_rfl, by kernel_rfl⟩
end Go.Proofs.YtckochcocflleaaGreat
