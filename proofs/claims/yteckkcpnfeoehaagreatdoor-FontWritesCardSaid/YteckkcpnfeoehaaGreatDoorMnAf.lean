/-
  Texts of this seat, put together: each with its own head.
-/
import Derived.Test.YteckkcpnfeoehaaGreatDoorMnAb
import Derived.Laws.StructEq
import Derived.Deep.CutBlock
import Derived.Deep.DeepCutAuto
import Derived.Test.YteckkcpnfeoehaaGreatDoorMnAa

/-
  Knots: as they read (by functions and as lists), and rows of them that a call has made.
-/
namespace Go.Proofs.YteckkcpnfeoehaaGreatDoor
set_option maxRecDepth 100000
open Go.RowKit Go.ChangeShapes Go.WideShapes Go.Deep
set_option linter.unusedVariables false

/-- A knot. -/
structure Kt where
  (x y : Int) (o : Bool)
def kAt (X Y : Nat → Int) (O : Nat → Bool) (j : Nat) : Kt := ⟨X j, Y j, O j⟩
/-- A slice's n knots, in a block below B (nil and empty let in). -/
def RdK (w : World) (B : Nat) (A : Option Addr) (n : Nat) (X Y : Nat → Int) (O : Nat → Bool) : Prop :=
  0 < n → ∃ b o, A = some ⟨b, o, none⟩ ∧ b < B ∧ ∀ j, j < n → w.cell? ⟨b, o + j * 3, none⟩ = some (.int .i64 (X j)) ∧ w.cell? ⟨b, o + j * 3 + 1, none⟩ = some (.int .i64 (Y j)) ∧ w.cell? ⟨b, o + j * 3 + 2, none⟩ = some (.bool (O j))
section
variable {w w' : World} {B B' n : Nat} {A : Option Addr} {X Y : Nat → Int} {O : Nat → Bool}
theorem RdK.zero : RdK w B A 0 X Y O := fun h => absurd h (by omega)
theorem RdK.keep (h : RdK w B A n X Y O) (hk : ∀ b o, b < B → w'.cell? ⟨b, o, none⟩ = w.cell? ⟨b, o, none⟩) : RdK w' B A n X Y O := fun hn => by
  obtain ⟨b, o, rfl, hb, hc⟩ := h hn
  exact ⟨b, o, rfl, hb, fun j hj => ⟨(hk _ _ hb).trans (hc j hj).1, (hk _ _ hb).trans (hc j hj).2.1, (hk _ _ hb).trans (hc j hj).2.2⟩⟩
theorem RdK.more (h : RdK w B A n X Y O) (hB : B ≤ B') : RdK w B' A n X Y O := fun hn => by
  obtain ⟨b, o, rfl, hb, hc⟩ := h hn
  exact ⟨b, o, rfl, by omega, hc⟩
theorem RdK.on (h : RdK w w.heap.size A n X Y O) (k : Since w w') : RdK w' w'.heap.size A n X Y O := (h.keep fun b o hb => k.1 b o hb).more k.below.size
end
def knL (k : Kt) : List Value := [.int .i64 k.x, .int .i64 k.y, .bool k.o]
abbrev RdKl (w : World) (B : Nat) (A : Option Addr) (L : List Kt) : Prop := RdG 3 knL w B A L
def ktL (n : Nat) (X Y : Nat → Int) (O : Nat → Bool) : List Kt := (List.range n).map (kAt X Y O)
theorem ktL_len (n : Nat) (X Y : Nat → Int) (O : Nat → Bool) : (ktL n X Y O).length = n := by simp [ktL]
theorem ktL_get {n : Nat} {X Y : Nat → Int} {O : Nat → Bool} {j : Nat} (hj : j < n) : (ktL n X Y O)[j]? = some (kAt X Y O j) := by simp [ktL, hj]
theorem RdK.list {w : World} {B : Nat} {A : Option Addr} {n : Nat} {X Y : Nat → Int} {O : Nat → Bool} (h : RdK w B A n X Y O) : RdKl w B A (ktL n X Y O) := fun hn => by
  rw [ktL_len] at hn
  obtain ⟨b, o, rfl, hb, hc⟩ := h hn
  refine ⟨b, o, rfl, hb, fun j s hj i hi => ?_⟩
  have hjn : j < n := by
    rcases Nat.lt_or_ge j n with h | h
    · exact h
    · rw [List.getElem?_eq_none (by rw [ktL_len]; exact h)] at hj; cases hj
  rw [ktL_get hjn] at hj
  injection hj with hj
  subst hj
  obtain ⟨h1, h2, h3⟩ := hc j hjn
  have hh : i = 0 ∨ i = 1 ∨ i = 2 := by omega
  rcases hh with rfl | rfl | rfl <;> assumption
end Go.Proofs.YteckkcpnfeoehaaGreatDoor

/-
  Outlines in memory: slices of slices of knots; the reference's 'Same' of two that read alike.
-/
namespace Go.Proofs.YteckkcpnfeoehaaGreatDoor
set_option maxRecDepth 100000
open Go.RowKit Go.ChangeShapes Go.WideShapes Go.Deep
set_option linter.unusedVariables false

/-- A slice's rows, each of knots. -/
structure OutD where
  n : Nat
  A : Nat → Option Addr
  N : Nat → Nat
  C : Nat → Nat
  X : Nat → Nat → Int
  Y : Nat → Nat → Int
  O : Nat → Nat → Bool
def OutD.hd (D : OutD) (j : Nat) : Value := .slice (D.A j) (D.N j) (D.C j)
/-- An outline that reads as D, in blocks below B. -/
def RdO (w : World) (B : Nat) (A : Option Addr) (D : OutD) : Prop := Rd w B A D.n D.hd ∧ (∀ j, j < D.n → RdK w B (D.A j) (D.N j) (D.X j) (D.Y j) (D.O j)) ∧ ∀ j, j < D.n → D.N j ≤ maxLen
theorem RdO.keep {w w' : World} {B : Nat} {A : Option Addr} {D : OutD} (h : RdO w B A D) (hk : ∀ b o, b < B → w'.cell? ⟨b, o, none⟩ = w.cell? ⟨b, o, none⟩) : RdO w' B A D := ⟨h.1.keep hk, fun j hj => (h.2.1 j hj).keep hk, h.2.2⟩
theorem RdO.more {w : World} {B B' : Nat} {A : Option Addr} {D : OutD} (h : RdO w B A D) (hB : B ≤ B') : RdO w B' A D := ⟨h.1.more hB, fun j hj => (h.2.1 j hj).more hB, h.2.2⟩
theorem RdO.on {w w' : World} {A : Option Addr} {D : OutD} (h : RdO w w.heap.size A D) (k : Since w w') : RdO w' w'.heap.size A D := (h.keep fun b o hb => k.1 b o hb).more k.below.size
end Go.Proofs.YteckkcpnfeoehaaGreatDoor

/-
  Outlines as lists of lists of knots: as they read, and as a call has made them.
-/
namespace Go.Proofs.YteckkcpnfeoehaaGreatDoor
set_option maxRecDepth 100000
open Go.RowKit Go.ChangeShapes Go.WideShapes Go.Deep
set_option linter.unusedVariables false

/-- A contour's header. -/
structure Hd where
  (A : Option Addr) (n c : Nat)
def hdL (h : Hd) : List Value := [.slice h.A h.n h.c]
theorem hdL_len (h : Hd) : (hdL h).length = 1 := rfl
theorem hdL_one (h : Hd) : ∀ u ∈ hdL h, u.oneCell' = true := by
  intro u hu
  simp only [hdL, List.mem_cons, List.not_mem_nil, or_false] at hu
  subst hu
  rfl
theorem hd_one (w : World) (b : Nat) (hb : b = w.heap.size) (ty : TypeId) (h : Hd) : RdG 1 hdL (w.alloc (.cells #[.slice h.A h.n h.c] ty)) (w.alloc (.cells #[.slice h.A h.n h.c] ty)).heap.size (some ⟨b, 0, none⟩) [h] :=
  rdG_one hb h (fun i hi => by
    obtain rfl : i = 0 := by omega
    rfl)
/-- An outline as it reads, in blocks below B. -/
def RdOL (w : World) (B : Nat) (A : Option Addr) (LL : List (List Kt)) : Prop :=
  ∃ hs : List Hd, hs.length = LL.length ∧ RdG 1 hdL w B A hs ∧ ∀ (j : Nat) h L, hs[j]? = some h → LL[j]? = some L → h.n = L.length ∧ RdKl w B h.A L
section
variable {w w' : World} {B B' : Nat} {A : Option Addr} {LL : List (List Kt)}
theorem RdOL.keep (h : RdOL w B A LL) (hk : ∀ b o, b < B → w'.cell? ⟨b, o, none⟩ = w.cell? ⟨b, o, none⟩) : RdOL w' B A LL := by
  obtain ⟨hs, hl, hr, hK⟩ := h
  exact ⟨hs, hl, hr.keep hk, fun j x L h1 h2 => ⟨(hK j x L h1 h2).1, (hK j x L h1 h2).2.keep hk⟩⟩
theorem RdOL.more (h : RdOL w B A LL) (hB : B ≤ B') : RdOL w B' A LL := by
  obtain ⟨hs, hl, hr, hK⟩ := h
  exact ⟨hs, hl, hr.more hB, fun j x L h1 h2 => ⟨(hK j x L h1 h2).1, (hK j x L h1 h2).2.more hB⟩⟩
theorem RdOL.on (h : RdOL w w.heap.size A LL) (k : Since w w') : RdOL w' w'.heap.size A LL := (h.keep fun b o hb => k.1 b o hb).more k.below.size
/-- One contour: its header's cell, and its knots. -/
theorem RdOL.row (h : RdOL w B A LL) {j : Nat} {L : List Kt} (hj : LL[j]? = some L) : ∃ b o A' c', A = some ⟨b, o, none⟩ ∧ b < B ∧ w.cell? ⟨b, o + j, none⟩ = some (.slice A' L.length c') ∧ RdKl w B A' L := by
  obtain ⟨hs, hl, hr, hK⟩ := h
  have hjl : j < hs.length := by
    rw [hl]
    rcases Nat.lt_or_ge j LL.length with h | h
    · exact h
    · rw [List.getElem?_eq_none h] at hj; cases hj
  obtain ⟨b, o, rfl, hb, hc⟩ := hr (by omega)
  have h1 : hs[j]? = some hs[j] := List.getElem?_eq_getElem hjl
  obtain ⟨e1, h2⟩ := hK j _ L h1 hj
  refine ⟨b, o, hs[j].A, hs[j].c, rfl, hb, ?_, h2⟩
  have h3 := hc j _ h1 0 (by omega)
  rw [Nat.mul_one, Nat.add_zero] at h3
  rw [h3, ← e1]
  rfl
end
theorem own_apart {α β : Type} {e1 : α → List Value} {e2 : β → List Value} {t1 t2 : TypeId} {k1 k2 b1 b2 : Nat} {w : World} {v1 v2 : Value} {L1 : List α} {L2 : List β} (h1 : OwnG t1 k1 e1 w b1 v1 L1) (h2 : OwnG t2 k2 e2 w b2 v2 L2) (ht : t1 ≠ t2) {q : Nat} (hq : v1.ownBlock = some q) : v2.ownBlock ≠ some q := by
  intro hq2
  rcases h1.2 with ⟨rfl, _⟩ | ⟨g, c, cur, rfl, _, hh, _⟩
  · cases hq
  · rcases h2.2 with ⟨rfl, _⟩ | ⟨g', c', cur', rfl, _, hh', _⟩
    · cases hq2
    · simp only [Value.ownBlock, Option.some.injEq] at hq hq2
      subst hq
      subst hq2
      rw [hh] at hh'
      injection hh' with hh'
      injection hh' with _ e _
      exact ht e
section
variable {w w' : World} {base : Nat} {v : Value} {LL : List (List Kt)}
end
/-- What 'Same' needs. -/
def outD (LL : List (List Kt)) (hs : List Hd) : OutD :=
  ⟨LL.length, fun j => (hs.getD j ⟨none, 0, 0⟩).A, fun j => (LL.getD j []).length, fun j => (hs.getD j ⟨none, 0, 0⟩).c, fun j i => ((LL.getD j []).getD i ⟨0, 0, false⟩).x, fun j i => ((LL.getD j []).getD i ⟨0, 0, false⟩).y, fun j i => ((LL.getD j []).getD i ⟨0, 0, false⟩).o⟩
theorem RdOL.out {w : World} {B : Nat} {A : Option Addr} {LL : List (List Kt)} (h : RdOL w B A LL) (hm : ∀ L, L ∈ LL → L.length ≤ maxLen) : ∃ hs, RdO w B A (outD LL hs) := by
  obtain ⟨hs, hl, hr, hK⟩ := h
  refine ⟨hs, fun hn => ?_, fun j hj => ?_, fun j hj => ?_⟩
  · obtain ⟨b, o, rfl, hb, hc⟩ := hr (by rw [hl]; exact hn)
    refine ⟨b, o, rfl, hb, fun j hj => ?_⟩
    have hj' : j < LL.length := hj
    have h1 : hs[j]? = some hs[j] := List.getElem?_eq_getElem (by omega)
    have h2 : LL[j]? = some LL[j] := List.getElem?_eq_getElem hj'
    have h3 := hc j _ h1 0 (by omega)
    rw [Nat.mul_one, Nat.add_zero] at h3
    rw [h3]
    unfold OutD.hd outD
    simp only [List.getD_eq_getElem?_getD, h1, h2, Option.getD_some]
    rw [← (hK j _ _ h1 h2).1]
    rfl
  · have hj' : j < LL.length := hj
    have h1 : hs[j]? = some hs[j] := List.getElem?_eq_getElem (by omega)
    have h2 : LL[j]? = some LL[j] := List.getElem?_eq_getElem hj'
    have hk := (hK j _ _ h1 h2).2
    unfold outD
    simp only [List.getD_eq_getElem?_getD, h1, h2, Option.getD_some]
    intro hn
    obtain ⟨b, o, e, hb, hc⟩ := hk hn
    refine ⟨b, o, e, hb, fun i hi => ?_⟩
    have h4 : LL[j][i]? = some LL[j][i] := List.getElem?_eq_getElem hi
    have h5 := hc i _ h4
    simp only [h4, Option.getD_some]
    exact ⟨h5 0 (by omega), h5 1 (by omega), h5 2 (by omega)⟩
  · have hj' : j < LL.length := hj
    have h2 : LL[j]? = some LL[j] := List.getElem?_eq_getElem hj'
    show (LL.getD j []).length ≤ maxLen
    rw [List.getD_eq_getElem?_getD, h2]
    exact hm _ (List.getElem_mem hj')
end Go.Proofs.YteckkcpnfeoehaaGreatDoor

/-
  All blocks but one stand.
-/
namespace Go.Proofs.YteckkcpnfeoehaaGreatDoor
set_option maxRecDepth 100000
open Go.RowKit Go.ChangeShapes Go.WideShapes
set_option linter.unusedVariables false

/-- All blocks but one are as they were. -/
def KeepBut (q : Nat) (w w' : World) : Prop := w.heap.size ≤ w'.heap.size ∧ ∀ b, b < w.heap.size → b ≠ q → w'.heap[b]? = w.heap[b]?
theorem KeepBut.refl (q : Nat) (w : World) : KeepBut q w w := ⟨Nat.le_refl _, fun _ _ _ => rfl⟩
theorem KeepBut.trans {q : Nat} {a b c : World} (h : KeepBut q a b) (k : KeepBut q b c) : KeepBut q a c := ⟨Nat.le_trans h.1 k.1, fun x hx hq => (k.2 x (Nat.lt_of_lt_of_le hx h.1) hq).trans (h.2 x hx hq)⟩
theorem KeepBut.since {q : Nat} {a b c : World} (h : KeepBut q a b) (k : Since b c) : KeepBut q a c := ⟨Nat.le_trans h.1 k.below.size, fun x hx hq => (k.below.block x (Nat.lt_of_lt_of_le hx h.1)).trans (h.2 x hx hq)⟩
theorem KeepBut.set {q : Nat} {a b : World} (h : KeepBut q a b) (o : Nat) (v : Value) : KeepBut q a (b.setCell ⟨q, o, none⟩ v) := ⟨by simpa [World.setCell] using h.1, fun x hx hq => by
  rw [← h.2 x hx hq]
  simp [World.setCell, Array.getElem?_modify, show ¬ q = x from fun e => hq e.symm]⟩
theorem KeepBut.cell {q : Nat} {a b : World} (h : KeepBut q a b) {x o : Nat} {v : Value} (hc : a.cell? ⟨x, o, none⟩ = some v) (hx : x < a.heap.size) (hq : x ≠ q) : b.cell? ⟨x, o, none⟩ = some v := by
  rw [← hc]; simp only [World.cell?, h.2 x hx hq]
end Go.Proofs.YteckkcpnfeoehaaGreatDoor
