/-
  Texts of this seat, put together: each with its own head.
-/
import Derived.Test.YteckkcpnfeoehaaDoorMpC
import Derived.Test.YteckkcpnfeoehaaDoorMpB
import Derived.OwnWalk
import Derived.Test.YteckkcpnfeoehaaDoorMnAe
import Derived.WalkMore
import Derived.ScopeJumps
import Derived.Test.YteckkcpnfeoehaaDoorMnAg
import Derived.Test.YteckkcpnfeoehaaDoorKitT

/-
  Layer 8: readPart, readCode, walked.
-/
namespace Go.Proofs.YteckkcpnfeoehaaDoor
set_option maxRecDepth 100000
open Go.RowKit Go.ChangeShapes Go.WideShapes Go.Deep
set_option linter.unusedVariables false


section
variable {P : Program} {fn : Func} {R : Ending → World → Prop} {a : Act} {w : World}
end
end Go.Proofs.YteckkcpnfeoehaaDoor

/-
  Layer 7: small functions, walked: fits, readStep; short of the reference.
-/
namespace Go.Proofs.YteckkcpnfeoehaaDoor
set_option maxRecDepth 100000
open Go.RowKit Go.ChangeShapes Go.WideShapes Go.Deep
set_option linter.unusedVariables false
set_option linter.unusedSimpArgs false


end Go.Proofs.YteckkcpnfeoehaaDoor

/-
  Layer 7: writeStep, walked.
-/
namespace Go.Proofs.YteckkcpnfeoehaaDoor
set_option maxRecDepth 100000
open Go.RowKit Go.ChangeShapes Go.WideShapes Go.Deep
set_option linter.unusedVariables false
set_option linter.unusedSimpArgs false

end Go.Proofs.YteckkcpnfeoehaaDoor

/-
  Layer 7: the reference's step, walked; a literal of bytes as an own row.
-/
namespace Go.Proofs.YteckkcpnfeoehaaDoor
set_option maxRecDepth 100000
open Go.RowKit Go.ChangeShapes Go.WideShapes Go.Deep
set_option linter.unusedVariables false
set_option linter.unusedSimpArgs false

end Go.Proofs.YteckkcpnfeoehaaDoor

/-
  Whole numbers as lists: rows that read so, rows of a call's own.
-/
namespace Go.Proofs.YteckkcpnfeoehaaDoor
set_option maxRecDepth 100000
open Go.RowKit Go.ChangeShapes Go.WideShapes Go.Deep
set_option linter.unusedVariables false

def inL (x : Int) : List Value := [.int .i64 x]
theorem inL_len (x : Int) : (inL x).length = 1 := rfl
abbrev RdI (w : World) (B : Nat) (A : Option Addr) (L : List Int) : Prop := RdG 1 inL w B A L
abbrev OwnI (w : World) (base : Nat) (v : Value) (L : List Int) : Prop := OwnG 3 1 inL w base v L
theorem infoIn0 : (Tryd.prog.info? 3).map (fun i => (i.zero, i.size, i.bytes)) = some (some (.int .i64 0), 1, 8) := by kernel_rfl
abbrev I64 (f : Nat → Int) : Nat → Value := IntRow .i64 f
section
variable {w w' : World} {B n : Nat} {A : Option Addr} {L : List Int} {f : Nat → Int}
theorem rdi_rd (h : RdI w B A L) : Rd w B A L.length (I64 (fnL L)) := fun hn => by
  obtain ⟨b, o, rfl, hb, hc⟩ := h hn
  refine ⟨b, o, rfl, hb, fun j hj => ?_⟩
  have h1 := hc j _ (fnL_get hj) 0 (by omega)
  rw [Nat.mul_one, Nat.add_zero] at h1
  exact h1
theorem rdi_rd' (h : RdI w B A L) (hn : n = L.length) : Rd w B A n (I64 (fnL L)) := by subst hn; exact rdi_rd h
end
section
variable {P : Program}
end
end Go.Proofs.YteckkcpnfeoehaaDoor

/-
  Layer 7: readPlaces, walked, where all numbers are read.
-/
namespace Go.Proofs.YteckkcpnfeoehaaDoor
set_option maxRecDepth 100000
open Go.RowKit Go.ChangeShapes Go.WideShapes Go.Deep
set_option linter.unusedVariables false
set_option linter.unusedSimpArgs false

end Go.Proofs.YteckkcpnfeoehaaDoor

/-
  Layer 7: readFlags, walked (a goto inside a loop's round).
-/
namespace Go.Proofs.YteckkcpnfeoehaaDoor
set_option maxRecDepth 100000
open Go.RowKit Go.ChangeShapes Go.WideShapes Go.Deep
set_option linter.unusedVariables false
set_option linter.unusedSimpArgs false

end Go.Proofs.YteckkcpnfeoehaaDoor

/-
  Layer 7: readEnds, walked.
-/
namespace Go.Proofs.YteckkcpnfeoehaaDoor
set_option maxRecDepth 100000
open Go.RowKit Go.ChangeShapes Go.WideShapes Go.Deep
set_option linter.unusedVariables false
set_option linter.unusedSimpArgs false

end Go.Proofs.YteckkcpnfeoehaaDoor

/-
  Layer 7: divide, walked: points cut into contours.
-/
namespace Go.Proofs.YteckkcpnfeoehaaDoor
set_option maxRecDepth 100000
open Go.RowKit Go.ChangeShapes Go.WideShapes Go.Deep
set_option linter.unusedVariables false
set_option linter.unusedSimpArgs false

end Go.Proofs.YteckkcpnfeoehaaDoor

/-
  Layer 7: readPlaces, walked, where a number can't be read.
-/
namespace Go.Proofs.YteckkcpnfeoehaaDoor
set_option maxRecDepth 100000
open Go.RowKit Go.ChangeShapes Go.WideShapes Go.Deep
set_option linter.unusedVariables false
set_option linter.unusedSimpArgs false


end Go.Proofs.YteckkcpnfeoehaaDoor
