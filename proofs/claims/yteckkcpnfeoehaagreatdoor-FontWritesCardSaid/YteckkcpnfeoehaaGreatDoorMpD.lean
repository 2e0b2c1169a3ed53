/-
  Texts of this seat, put together: each with its own head.
-/
import Derived.Test.YteckkcpnfeoehaaGreatDoorMpC
import Derived.Test.YteckkcpnfeoehaaGreatDoorMpB
import Derived.OwnWalk
import Derived.Test.YteckkcpnfeoehaaGreatDoorMnAe
import Derived.WalkMore
import Derived.ScopeJumps
import Derived.Test.YteckkcpnfeoehaaGreatDoorMnAg
import Derived.Test.YteckkcpnfeoehaaGreatDoorKitT

/-
  Layer 8: readPart, readCode, walked.
-/
namespace Go.Proofs.YteckkcpnfeoehaaGreatDoor
set_option maxRecDepth 100000
open Go.RowKit Go.ChangeShapes Go.WideShapes Go.Deep
set_option linter.unusedVariables false


section
variable {P : Program} {fn : Func} {R : Ending → World → Prop} {a : Act} {w : World}
end
end Go.Proofs.YteckkcpnfeoehaaGreatDoor

/-
  Layer 7: small functions, walked: fits, readStep; short of the reference.
-/
namespace Go.Proofs.YteckkcpnfeoehaaGreatDoor
set_option maxRecDepth 100000
open Go.RowKit Go.ChangeShapes Go.WideShapes Go.Deep
set_option linter.unusedVariables false
set_option linter.unusedSimpArgs false


end Go.Proofs.YteckkcpnfeoehaaGreatDoor

/-
  Layer 7: writeStep, walked.
-/
namespace Go.Proofs.YteckkcpnfeoehaaGreatDoor
set_option maxRecDepth 100000
open Go.RowKit Go.ChangeShapes Go.WideShapes Go.Deep
set_option linter.unusedVariables false
set_option linter.unusedSimpArgs false

end Go.Proofs.YteckkcpnfeoehaaGreatDoor

/-
  Layer 7: the reference's step, walked; a literal of bytes as an own row.
-/
namespace Go.Proofs.YteckkcpnfeoehaaGreatDoor
set_option maxRecDepth 100000
open Go.RowKit Go.ChangeShapes Go.WideShapes Go.Deep
set_option linter.unusedVariables false
set_option linter.unusedSimpArgs false

theorem ownB_new (w : World) (base b n : Nat) (hb : b = w.heap.size) (hB : base ≤ w.heap.size) (cs : Array Value) (L : List Int) (hn : n = L.length) (hcs : cs = (L.map (Value.int .u8)).toArray) (hL : L.length ≤ 1000) : OwnB (w.alloc (.cells cs 5)) base (.slice (some ⟨b, 0, none⟩) n n) L := by
  subst hb; subst hn; subst hcs
  have e : cellsG byL L = L.map (Value.int .u8) := by
    clear hL
    induction L with
    | nil => rfl
    | cons a l ih => unfold cellsG at ih ⊢; rw [List.flatMap_cons, List.map_cons, ih]; rfl
  exact ⟨by rw [cellsG_len byL_len], .inr ⟨w.heap.size, L.length, _, rfl, hB, heap_alloc_new w _, Nat.le_refl _, by simp only [maxLen]; omega, by simp, by rw [e, Nat.mul_one]; exact List.take_of_length_le (by simp)⟩⟩

end Go.Proofs.YteckkcpnfeoehaaGreatDoor

/-
  Whole numbers as lists: rows that read so, rows of a call's own.
-/
namespace Go.Proofs.YteckkcpnfeoehaaGreatDoor
set_option maxRecDepth 100000
open Go.RowKit Go.ChangeShapes Go.WideShapes Go.Deep
set_option linter.unusedVariables false

def inL (x : Int) : List Value := [.int .i64 x]
theorem inL_len (x : Int) : (inL x).length = 1 := rfl
theorem inL_one (x : Int) : ∀ u ∈ inL x, u.oneCell' = true := by
  intro u hu
  simp only [inL, List.mem_cons, List.not_mem_nil, or_false] at hu
  subst hu
  rfl
abbrev RdI (w : World) (B : Nat) (A : Option Addr) (L : List Int) : Prop := RdG 1 inL w B A L
abbrev OwnI (w : World) (base : Nat) (v : Value) (L : List Int) : Prop := OwnG 3 1 inL w base v L
theorem infoIn0 : (Tryz.prog.info? 3).map (fun i => (i.zero, i.size, i.bytes)) = some (some (.int .i64 0), 1, 8) := by kernel_rfl
theorem infoIn : ∃ i z, Tryz.prog.info? 3 = some i ∧ i.zero = some z ∧ i.size = 1 ∧ i.bytes = 8 ∧ z.cells.size = 1 := by
  obtain ⟨i0, hi, hz0, hz1, hz2⟩ := info_parts infoIn0
  exact ⟨i0, _, hi, hz0, hz1, hz2, rfl⟩
theorem ownI_new (w : World) (base b n : Nat) (hb : b = w.heap.size) (hB : base ≤ w.heap.size) (cs : Array Value) (L : List Int) (hn : n = L.length) (hcs : cs = (L.map (Value.int .i64)).toArray) (hL : L.length ≤ 1000) : OwnG 3 1 inL (w.alloc (.cells cs 3)) base (.slice (some ⟨b, 0, none⟩) n n) L := by
  subst hb; subst hn; subst hcs
  have e : cellsG inL L = L.map (Value.int .i64) := by
    clear hL
    induction L with
    | nil => rfl
    | cons a l ih => unfold cellsG at ih ⊢; rw [List.flatMap_cons, List.map_cons, ih]; rfl
  exact ⟨by rw [cellsG_len inL_len], .inr ⟨w.heap.size, L.length, _, rfl, hB, heap_alloc_new w _, Nat.le_refl _, by simp only [maxLen]; omega, by simp, by rw [e, Nat.mul_one]; exact List.take_of_length_le (by simp)⟩⟩
abbrev I64 (f : Nat → Int) : Nat → Value := IntRow .i64 f
section
variable {w w' : World} {B n : Nat} {A : Option Addr} {L : List Int} {f : Nat → Int}
theorem rdi_rd (h : RdI w B A L) : Rd w B A L.length (I64 (fnL L)) := fun hn => by
  obtain ⟨b, o, rfl, hb, hc⟩ := h hn
  refine ⟨b, o, rfl, hb, fun j hj => ?_⟩
  have h1 := hc j _ (fnL_get hj) 0 (by omega)
  rw [Nat.mul_one, Nat.add_zero] at h1
  exact h1
theorem rdi_rd' (h : RdI w B A L) (hn : n = L.length) : Rd w B A n (I64 (fnL L)) := by subst hn; exact rdi_rd h
end
/-- A new block that holds one number. -/
theorem in_one (w : World) (b : Nat) (hb : b = w.heap.size) (ty : TypeId) (x : Int) : RdI (w.alloc (.cells #[.int .i64 x] ty)) (w.alloc (.cells #[.int .i64 x] ty)).heap.size (some ⟨b, 0, none⟩) [x] :=
  rdG_one hb x (fun i hi => by
    obtain rfl : i = 0 := by omega
    rfl)
section
variable {P : Program}
/-- append of one number, just built, to numbers of the call's own. -/
theorem wpList_append_i {w w0 : World} {ops : Array Oper} {rest : List Oper} {o : Oper} {a : Act} {Q : Exit → Act → World → Prop} (hgd : o.guard = none) (s x : Operand)
    (ho : o.op = .call { callee := .builtin .append, args := #[s, x], argTypes := #[39, 39] })
    (ty : TypeId) (hS : Since w0 w) (v : Value) (L : List Int) (hs : a.eval s = v) (hown : OwnI w w0.heap.size v L) (b c : Nat) (y : Int) (hx : a.eval x = .slice (some ⟨b, 0, none⟩) 1 c) (hb : b = w.heap.size)
    (hbytes : L.length ≤ 3000000)
    (h : ∀ v' w', OwnI w' w0.heap.size v' (L ++ [y]) → (w.alloc (.cells #[.int .i64 y] ty)).grownBy w' v.ownBlock → (∀ q, v.ownBlock = some q → w0.heap.size ≤ q ∧ q < w.heap.size) → Since w0 w' → wpList Tryz.prog ops Q rest (a.put o.dst v') w') :
    wpList Tryz.prog ops Q (o :: rest) a (w.alloc (.cells #[.int .i64 y] ty)) :=
  wpList_append_g hgd s x 39 3 ho (by omega) inL_len inL_one 8 Tryz.underlying39 infoIn w0.heap.size v L hs (hown.alloc _) _ _ c [y] hx (in_one w b hb ty y) (by simp only [List.length_cons, List.length_nil]; omega) (by simp only [List.length_cons, List.length_nil, maxLen]; omega) (by have := hS.below.size; simp; omega) (fun v' w' h9 hg hlt => h v' w' h9 hg (fun q hq => hown.lt hq) (since_grown (hS.alloc _) hg (fun k hk => (hlt k hk).1)))
end
end Go.Proofs.YteckkcpnfeoehaaGreatDoor

/-
  Layer 7: readPlaces, walked, where all numbers are read.
-/
namespace Go.Proofs.YteckkcpnfeoehaaGreatDoor
set_option maxRecDepth 100000
open Go.RowKit Go.ChangeShapes Go.WideShapes Go.Deep
set_option linter.unusedVariables false
set_option linter.unusedSimpArgs false

end Go.Proofs.YteckkcpnfeoehaaGreatDoor

/-
  Layer 7: readFlags, walked (a goto inside a loop's round).
-/
namespace Go.Proofs.YteckkcpnfeoehaaGreatDoor
set_option maxRecDepth 100000
open Go.RowKit Go.ChangeShapes Go.WideShapes Go.Deep
set_option linter.unusedVariables false
set_option linter.unusedSimpArgs false

end Go.Proofs.YteckkcpnfeoehaaGreatDoor

/-
  Layer 7: readEnds, walked.
-/
namespace Go.Proofs.YteckkcpnfeoehaaGreatDoor
set_option maxRecDepth 100000
open Go.RowKit Go.ChangeShapes Go.WideShapes Go.Deep
set_option linter.unusedVariables false
set_option linter.unusedSimpArgs false

end Go.Proofs.YteckkcpnfeoehaaGreatDoor

/-
  Layer 7: divide, walked: points cut into contours.
-/
namespace Go.Proofs.YteckkcpnfeoehaaGreatDoor
set_option maxRecDepth 100000
open Go.RowKit Go.ChangeShapes Go.WideShapes Go.Deep
set_option linter.unusedVariables false
set_option linter.unusedSimpArgs false

end Go.Proofs.YteckkcpnfeoehaaGreatDoor

/-
  Layer 7: readPlaces, walked, where a number can't be read.
-/
namespace Go.Proofs.YteckkcpnfeoehaaGreatDoor
set_option maxRecDepth 100000
open Go.RowKit Go.ChangeShapes Go.WideShapes Go.Deep
set_option linter.unusedVariables false
set_option linter.unusedSimpArgs false


end Go.Proofs.YteckkcpnfeoehaaGreatDoor
