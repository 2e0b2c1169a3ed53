/-
  Layer 2: 'Lay', walked, program and reference; a slice that is new, to be written.
-/
import Derived.Test.YtbjjndficllogaaBeB
import Derived.Test.YtbjjndficllogaaKit3
namespace Go.Proofs.Ytbjjndficllogaa
open Go.RowKit
set_option linter.unusedVariables false

/-- A slice that is new since B, to be written: its n elements read as V. -/
def Nw (w : World) (B : Nat) (A : Option Addr) (n : Nat) (V : Nat → Value) : Prop := 0 < n → ∃ g, A = some ⟨g, 0, none⟩ ∧ B ≤ g ∧ Row w g n V
section
variable {w w' : World} {B n : Nat} {A : Option Addr} {V U : Nat → Value}
theorem Nw.zero : Nw w B A 0 V := fun h => absurd h (by omega)
theorem Nw.rd (h : Nw w B A n V) : Rd w w.heap.size A n V := fun hn => by
  obtain ⟨g, rfl, hb, hr⟩ := h hn
  exact Rd.of_row hr hn
theorem Nw.since (h : Nw w B A n V) (k : Since w w') : Nw w' B A n V := fun hn => by
  obtain ⟨g, rfl, hb, hr⟩ := h hn
  exact ⟨g, rfl, hb, hr.since k⟩
theorem Nw.congr (h : Nw w B A n V) (e : ∀ j, j < n → V j = U j) : Nw w B A n U := fun hn => by
  obtain ⟨g, rfl, hb, hr⟩ := h hn
  exact ⟨g, rfl, hb, hr.congr e⟩
end
theorem Try.size_u8' : (Try.prog.info? 5).map (·.size) = some 1 := by kernel_rfl
theorem Own.cap {w : World} {B g cap n : Nat} {f : Nat → Int} (h : Own w B g cap n f) : n ≤ cap := by
  rcases h.2 with ⟨e1, _⟩ | ⟨_, _, _, e1, _, _, hnc, _⟩
  · cases e1
  · injection e1 with _ _ e3; omega
def layE (n m : Nat) (i : Int) : Int := if Fits n i m then 0 else 3
def layN (n m : Nat) (i : Int) : Nat := if Fits n i m then n else 0
def layF (f o : Nat → Int) (m : Nat) (i : Int) (j : Nat) : Int := if i.toNat ≤ j ∧ j < i.toNat + m then o (j - i.toNat) else f j
theorem lay_no {n m : Nat} {i : Int} (h : ¬ Fits n i m) : layE n m i = 3 ∧ layN n m i = 0 := by simp [layE, layN, h]
theorem lay_yes {n m : Nat} {i : Int} (h : Fits n i m) : layE n m i = 0 ∧ layN n m i = n := by simp [layE, layN, h]
/-- What 'Lay' leaves. -/
def LayPost (f o : Nat → Int) (n m : Nat) (i : Int) (w : World) (e : Ending) (w' : World) : Prop := ∃ A' l cap, e = .returned (.tuple #[.slice A' l cap, .int .i64 (layE n m i)]) ∧ l = layN n m i ∧ l ≤ cap ∧ Nw w' w.heap.size A' l (U8 (layF f o m i)) ∧ Since w w'

end Go.Proofs.Ytbjjndficllogaa
