/-
  Texts of this seat, put together: each with its own head.
-/
import Derived.Test.YteckkcpnfeoehaaGreatDoorMpS
import Derived.Test.YteckkcpnfeoehaaGreatDoorFnJ
import Derived.Test.YteckkcpnfeoehaaGreatDoorFnI
import Derived.Test.YteckkcpnfeoehaaGreatDoorMpO
import Derived.Test.YteckkcpnfeoehaaGreatDoorFoE

/-
  Layer 9: a font with memory of its own (the program's 'fresh').
-/
namespace Go.Proofs.YteckkcpnfeoehaaGreatDoor
set_option maxRecDepth 100000
open Go.RowKit Go.ChangeShapes Go.WideShapes Go.Deep
set_option linter.unusedVariables false
set_option linter.unusedSimpArgs false

theorem OwnT.made {w : World} {base : Nat} {v : Value} {n : Nat} (h : OwnG 49 2 thL w base v (List.replicate n ⟨ByteArray.empty, none, 0, 0⟩)) : OwnT w base v (List.replicate n ⟨ByteArray.empty, []⟩) := by
  refine ⟨_, by simp, h, fun j x T h1 h2 => ?_⟩
  obtain ⟨_, e1⟩ := List.getElem?_eq_some_iff.1 h1
  obtain ⟨_, e2⟩ := List.getElem?_eq_some_iff.1 h2
  rw [List.getElem_replicate] at e1 e2
  subst e1 e2
  exact ⟨rfl, OwnG.nil _ _ _ _ _⟩
end Go.Proofs.YteckkcpnfeoehaaGreatDoor

/-
  Layer 9: a font whose tables are made to tell what it tells (no walk but the wrappers of what layer 5 puts).
-/
namespace Go.Proofs.YteckkcpnfeoehaaGreatDoor
set_option maxRecDepth 100000
open Go.RowKit Go.ChangeShapes Go.WideShapes Go.Deep
set_option linter.unusedVariables false
set_option linter.unusedSimpArgs false

/-- A row that reads, in none of the blocks below B, nor in q. -/
def RdN (w : World) (B q : Nat) (A : Option Addr) (L : List Int) : Prop := RdB w w.heap.size A L ∧ (0 < L.length → ∀ b o, A = some ⟨b, o, none⟩ → B ≤ b ∧ b ≠ q)
theorem RdN.since {w w' : World} {B q : Nat} {A : Option Addr} {L : List Int} (h : RdN w B q A L) (k : Since w w') : RdN w' B q A L := ⟨RdG.on h.1 k, h.2⟩
theorem RdN.nigh {w w' : World} {B q r : Nat} {A : Option Addr} {L : List Int} (h : RdN w B q A L) (k : Nigh r w w') (hr : r = q ∨ r < B) : RdN w' B q A L := by
  refine ⟨fun hn => ?_, h.2⟩
  obtain ⟨b, o, e, hb, hc⟩ := h.1 hn
  obtain ⟨h1, h2⟩ := h.2 hn b o e
  refine ⟨b, o, e, Nat.lt_of_lt_of_le hb k.1.1, fun j s hj i hi => ?_⟩
  rw [← hc j s hj i hi]
  have := k.1.2 b hb (by rcases hr with rfl | hr <;> omega)
  simp only [World.cell?, this]
theorem dat_len {TT : List Tb} {s : ByteArray} {k : Nat} (h : ∀ T, T ∈ TT → T.data.length ≤ k) : (dat9 TT s).length ≤ k := dat9_cases (P := fun L => L.length ≤ k) (by simp) h s
end Go.Proofs.YteckkcpnfeoehaaGreatDoor

/-
  Layer 9: Sync of the program, walked.
-/
namespace Go.Proofs.YteckkcpnfeoehaaGreatDoor
set_option maxRecDepth 100000
open Go.RowKit Go.ChangeShapes Go.WideShapes Go.Deep
set_option linter.unusedVariables false
set_option linter.unusedSimpArgs false

theorem FnO.low {w : World} {base base' : Nat} {y : Fh} {F : Fn9} (h : FnO w base y F) (hb : base' ≤ base) : FnO w base' y F := ⟨h.t.low hb, OwnG.low h.m hb, h.g.low hb⟩
theorem FnO.nigh {w w' : World} {base q : Nat} {y : Fh} {F : Fn9} (h : FnO w base y F) (k : Nigh q w w') (hq : q < base) : FnO w' base y F := by
  have hk : ∀ b, base ≤ b → b < w.heap.size → w'.heap[b]? = w.heap[b]? := fun b hb hl => k.1.2 b hl (by omega)
  exact ⟨h.t.keepB hk, h.m.keep hk, h.g.keepB hk⟩
/-- A font that is worked on: its variable, the result's, its rows. -/
structure SyS (w wx : World) (y : Fh) (F : Fn9) : Prop where
  s : Since w wx
  b : FB wx w.heap.size y F
  r : BoxL wx (w.heap.size + 1) (fnC zX 0 zH zM 0 0 0)
  o : FnO wx (w.heap.size + 2) y F
section
variable {w wx wy : World} {y : Fh} {F : Fn9}
theorem SyS.since (h : SyS w wx y F) (k : Since wx wy) : SyS w wy y F := ⟨h.s.trans k, h.b.since k, h.r.since k, h.o.since k⟩
theorem SyS.lt2 (h : SyS w wx y F) : w.heap.size + 2 ≤ wx.heap.size := h.r.lt
theorem SyS.rd (h : SyS w wx y F) : FnR wx wx.heap.size y F := h.o.rd.1
theorem SyS.box {G : Fn9} (h : SyS w wx y F) (k : Nigh w.heap.size wx wy) (hb : FB wy w.heap.size y G) (e1 : G.TT = F.TT) (e2 : G.MM = F.MM) (e3 : G.GG = F.GG) : SyS w wy y G := by
  have ho := h.o.nigh k (by omega)
  refine ⟨k.2 w h.s (Nat.le_refl _), hb, h.r.nigh k (by omega), ⟨?_, ?_, ?_⟩⟩
  · rw [e1]; exact ho.t
  · rw [e2]; exact ho.m
  · rw [e3]; exact ho.g
theorem SyS.far {q : Nat} (h : SyS w wx y F) (k : Nigh q wx wy) (hq : w.heap.size + 2 ≤ q) (ho : FnO wy (w.heap.size + 2) y F) : SyS w wy y F := ⟨k.2 w h.s (by omega), BoxL.nigh h.b k (by omega), h.r.nigh k (by omega), ho⟩
end
theorem places_cv (x : Fh) (F : Fn9) (C : Array Value) (hC : CV x F C) (w : World) (hR : FnR w w.heap.size x F) (hG : NoGr F) : Calls Tryz.prog 12 #[.agg C] w fun e w' => ∃ A c, e = .returned (.slice A (F.GG.length + 1) c) ∧ RdI w' w'.heap.size A (plA F.GG) ∧ Since w w' := by
  refine (fn_places x F C hC w hR.glys (by have := hG.glys; omega) (by have := hG.sumG; omega)).mono ?_
  rintro e w' ⟨A, c, rfl, hO, hS⟩
  exact ⟨A, c, rfl, ownI_rd hO, hS⟩
/-- What was found: three rows, each to be put anew. -/
structure Dat3 (w wx : World) (q : Nat) (A0 : Option Addr) (n0 c0 : Nat) (A1 : Option Addr) (n1 c1 : Nat) (A2 : Option Addr) (n2 c2 : Nat) (L0 L1 L2 : List Int) : Prop where
  k0 : wx.cell? ⟨q, 0, none⟩ = some (.slice A0 n0 c0)
  k1 : wx.cell? ⟨q, 1, none⟩ = some (.slice A1 n1 c1)
  k2 : wx.cell? ⟨q, 2, none⟩ = some (.slice A2 n2 c2)
  fz : ∀ j, wx.frozen? ⟨q, j, none⟩ = false
  lt : q < wx.heap.size
  lo : w.heap.size + 2 ≤ q
  ty : ∃ cs z, wx.heap[q]? = some (Obj.cells cs 34 z)
  e0 : n0 = L0.length
  e1 : n1 = L1.length
  e2 : n2 = L2.length
  r0 : RdN wx (w.heap.size + 2) q A0 L0
  r1 : RdN wx (w.heap.size + 2) q A1 L1
  r2 : RdN wx (w.heap.size + 2) q A2 L2
section
variable {w wx wy : World} {q n0 c0 n1 c1 n2 c2 : Nat} {A0 A1 A2 : Option Addr} {L0 L1 L2 : List Int}
theorem Dat3.since (h : Dat3 w wx q A0 n0 c0 A1 n1 c1 A2 n2 c2 L0 L1 L2) (k : Since wx wy) : Dat3 w wy q A0 n0 c0 A1 n1 c1 A2 n2 c2 L0 L1 L2 :=
  ⟨(k.1 _ _ h.lt).trans h.k0, (k.1 _ _ h.lt).trans h.k1, (k.1 _ _ h.lt).trans h.k2, fun j => (k.2.1 _ _ h.lt).trans (h.fz j), k.2.2.1 _ h.lt, h.lo, by obtain ⟨cs, z, e⟩ := h.ty; exact ⟨cs, z, (k.below.block q h.lt).trans e⟩, h.e0, h.e1, h.e2, h.r0.since k, h.r1.since k, h.r2.since k⟩
theorem Dat3.nigh {r : Nat} (h : Dat3 w wx q A0 n0 c0 A1 n1 c1 A2 n2 c2 L0 L1 L2) (k : Nigh r wx wy) (hr : r < w.heap.size + 2) : Dat3 w wy q A0 n0 c0 A1 n1 c1 A2 n2 c2 L0 L1 L2 := by
  have e := k.1.2 q h.lt (by have := h.lo; omega)
  refine ⟨?_, ?_, ?_, fun j => ?_, Nat.lt_of_lt_of_le h.lt k.1.1, h.lo, by rw [e]; exact h.ty, h.e0, h.e1, h.e2, h.r0.nigh k (.inr hr), h.r1.nigh k (.inr hr), h.r2.nigh k (.inr hr)⟩
  · rw [← h.k0]; simp only [World.cell?, e]
  · rw [← h.k1]; simp only [World.cell?, e]
  · rw [← h.k2]; simp only [World.cell?, e]
  · rw [← h.fz j]; simp only [World.frozen?, e]
end
end Go.Proofs.YteckkcpnfeoehaaGreatDoor
