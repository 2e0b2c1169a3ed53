/-
  Texts of this seat, put together: each with its own head.
-/
import Derived.Test.YtdbenpncnkfliaaRows
import Derived.WalkKit
import Derived.ProofKit
import Derived.OpenShut
import Derived.Laws.ResultCell
import Derived.Deep.RegionHeld3
import Derived.Lib.Hide
import Derived.Deep.Draws
import Derived.Laws.OwnMore
import Derived.Laws.BytesArg
import Derived.Maps.AppendAt
import Derived.Deep.AppendLies
import Derived.Laws.CopyOwn
import Derived.OwnWalk
import Derived.Laws.ComplexArith
import Derived.Laws.StructEq
import Derived.Deep.QuietTactic
import Derived.BigQuiet

/-
  Words of this proof's own for what a call leaves of the world: 'Since w w2': all that was there reads as it did, and nothing has gone.
-/
namespace Go.Proofs.Ytdbenpncnkfliaa
open Go.RowKit Go.ChangeShapes Go.WideShapes

def Since (w w' : World) : Prop := (∀ b o, b < w.heap.size → w'.cell? ⟨b, o, none⟩ = w.cell? ⟨b, o, none⟩) ∧ (∀ b o, b < w.heap.size → w'.frozen? ⟨b, o, none⟩ = w.frozen? ⟨b, o, none⟩) ∧ (∀ k, k < w.heap.size → k < w'.heap.size) ∧ Below w.heap.size w w'

theorem since_of {w w' : World} (h : Below w.heap.size w w') : Since w w' :=
  ⟨fun b o hb => h.cell (p := ⟨b, o, none⟩) hb, fun b o hb => h.frozen (p := ⟨b, o, none⟩) hb, fun _ hk => Nat.lt_of_lt_of_le hk h.size, h⟩
theorem Since.below {w w' : World} (h : Since w w') : Below w.heap.size w w' := h.2.2.2
theorem Since.refl (w : World) : Since w w := since_of (Below.refl _ _)
theorem Since.trans {a b c : World} (h : Since a b) (k : Since b c) : Since a c := since_of (h.below.trans (k.below.mono h.below.size))
theorem Since.drew {a w : World} (h : Since a w) : Since a w.drew := since_of h.below.drew
theorem Since.alloc {a w : World} (h : Since a w) (o : Obj) : Since a (w.alloc o) := since_of (h.below.alloc h.below.size o)
theorem Since.setCell {a w : World} (h : Since a w) {p : Addr} (hp : a.heap.size ≤ p.block) (u : Value) : Since a (w.setCell p u) := since_of (h.below.setCell hp u)
theorem Since.drewN {a w : World} (h : Since a w) (n : Nat) : Since a (w.drewN n) := since_of ⟨h.below.os, h.below.tape, h.below.output, h.below.size, h.below.block⟩
/-- What a step kept, in the four parts that the walk uses as rules. -/
theorem since_step {w0 w1 w2 : World} (h : (∀ b o, b < w0.heap.size → w1.cell? ⟨b, o, none⟩ = w0.cell? ⟨b, o, none⟩) ∧ (∀ b o, b < w0.heap.size → w1.frozen? ⟨b, o, none⟩ = w0.frozen? ⟨b, o, none⟩) ∧ (∀ k, k < w0.heap.size → k < w1.heap.size) ∧ Below w0.heap.size w0 w1) (k : Since w1 w2) :
    (∀ b o, b < w0.heap.size → w2.cell? ⟨b, o, none⟩ = w0.cell? ⟨b, o, none⟩) ∧ (∀ b o, b < w0.heap.size → w2.frozen? ⟨b, o, none⟩ = w0.frozen? ⟨b, o, none⟩) ∧ (∀ k, k < w0.heap.size → k < w2.heap.size) ∧ Below w0.heap.size w0 w2 := Since.trans h k
theorem since_put {w0 w1 : World} (h : (∀ b o, b < w0.heap.size → w1.cell? ⟨b, o, none⟩ = w0.cell? ⟨b, o, none⟩) ∧ (∀ b o, b < w0.heap.size → w1.frozen? ⟨b, o, none⟩ = w0.frozen? ⟨b, o, none⟩) ∧ (∀ k, k < w0.heap.size → k < w1.heap.size) ∧ Below w0.heap.size w0 w1) {p : Addr} (hp : w0.heap.size ≤ p.block) (v : Value) :
    (∀ b o, b < w0.heap.size → (w1.setCell p v).cell? ⟨b, o, none⟩ = w0.cell? ⟨b, o, none⟩) ∧ (∀ b o, b < w0.heap.size → (w1.setCell p v).frozen? ⟨b, o, none⟩ = w0.frozen? ⟨b, o, none⟩) ∧ (∀ k, k < w0.heap.size → k < (w1.setCell p v).heap.size) ∧ Below w0.heap.size w0 (w1.setCell p v) := since_of (h.2.2.2.setCell hp v)
/-- The world under a name, and what the name stands for. -/
theorem wp_named {P : Program} {c : Code} {Q : Exit → Act → World → Prop} {a : Act} {w : World} (h : ∀ w0, w0 = w → c.wp P Q a w0) : c.wp P Q a w := h w rfl

/-- A cell behind a store, whatever the store: by the two addresses' numbers. -/
theorem cell_set (w : World) (b o b' o' : Nat) (v : Value) : (w.setCell ⟨b, o, none⟩ v).cell? ⟨b', o', none⟩ = if b = b' ∧ o = o' then (w.cell? ⟨b', o', none⟩).map (fun _ => v) else w.cell? ⟨b', o', none⟩ := by
  split
  · rename_i h
    obtain ⟨rfl, rfl⟩ := h
    cases hc : w.cell? ⟨b, o, none⟩ with
    | some u => rw [Option.map_some]; exact World.cell?_setCell_same _ _ _ hc
    | none =>
      rw [Option.map_none]
      unfold World.cell? at hc ⊢
      simp only [World.setCell, Array.getElem?_modify, ↓reduceIte, Option.isSome_none, Bool.false_eq_true] at hc ⊢
      cases hh : w.heap[b]? with
      | none => simp
      | some x =>
        rw [hh] at hc
        cases x <;> simp_all
  · rename_i h
    exact World.cell?_setCell_other w ⟨b, o, none⟩ ⟨b', o', none⟩ v (fun e => h (by injection e; exact ⟨‹_›, ‹_›⟩))

attribute [go_sem] cell_set
theorem map_there {o : Option Value} {v : Value} (h : o.isSome = true) : o.map (fun _ => v) = some v := by cases o <;> simp_all
attribute [go_sem] map_there
theorem there_of {o : Option Value} {v : Value} (h : o = some v) : o.isSome = true := by rw [h]; rfl
theorem there_set (w : World) (b o b' o' : Nat) (v : Value) : ((w.setCell ⟨b, o, none⟩ v).cell? ⟨b', o', none⟩).isSome = (w.cell? ⟨b', o', none⟩).isSome := by
  rw [cell_set]
  split
  · rw [Option.isSome_map]
  · rfl
/-- What a cell that is there holds, under a name. -/
def cellD (w : World) (r o : Nat) : Value := (w.cell? ⟨r, o, none⟩).getD undef
theorem cellD_of {w : World} {r o : Nat} (h : (w.cell? ⟨r, o, none⟩).isSome = true) : w.cell? ⟨r, o, none⟩ = some (cellD w r o) := by
  unfold cellD; cases hc : w.cell? ⟨r, o, none⟩ with
  | none => rw [hc] at h; cases h
  | some u => rfl
theorem sr_start {r m : Nat} {w0 : World} (h : ∀ o, o < m → (w0.cell? ⟨r, o, none⟩).isSome = true) : (∀ b o, b < r → w0.cell? ⟨b, o, none⟩ = w0.cell? ⟨b, o, none⟩) ∧ (∀ b o, b < w0.heap.size → w0.frozen? ⟨b, o, none⟩ = w0.frozen? ⟨b, o, none⟩) ∧ (∀ k, k < w0.heap.size → k < w0.heap.size) ∧ Below r w0 w0 ∧ (∀ o, o < m → w0.cell? ⟨r, o, none⟩ = some (cellD w0 r o)) :=
  ⟨fun _ _ _ => rfl, fun _ _ _ => rfl, fun _ h => h, Below.refl _ _, fun o ho => cellD_of (h o ho)⟩
theorem sr_step {r m : Nat} {w0 w1 w2 : World} (hr : r < w0.heap.size) (h : (∀ b o, b < r → w1.cell? ⟨b, o, none⟩ = w0.cell? ⟨b, o, none⟩) ∧ (∀ b o, b < w0.heap.size → w1.frozen? ⟨b, o, none⟩ = w0.frozen? ⟨b, o, none⟩) ∧ (∀ k, k < w0.heap.size → k < w1.heap.size) ∧ Below r w0 w1 ∧ (∀ o, o < m → w1.cell? ⟨r, o, none⟩ = some (cellD w1 r o))) (k : Since w1 w2) :
    (∀ b o, b < r → w2.cell? ⟨b, o, none⟩ = w0.cell? ⟨b, o, none⟩) ∧ (∀ b o, b < w0.heap.size → w2.frozen? ⟨b, o, none⟩ = w0.frozen? ⟨b, o, none⟩) ∧ (∀ k, k < w0.heap.size → k < w2.heap.size) ∧ Below r w0 w2 ∧ (∀ o, o < m → w2.cell? ⟨r, o, none⟩ = some (cellD w2 r o)) := by
  obtain ⟨h1, h2, h3, h4, h5⟩ := h
  exact ⟨fun b o hb => (k.1 b o (h3 b (by omega))).trans (h1 b o hb), fun b o hb => (k.2.1 b o (h3 b hb)).trans (h2 b o hb), fun j hj => k.2.2.1 j (h3 j hj), h4.trans (k.below.mono (Nat.le_of_lt (h3 r hr))), fun o ho => cellD_of (by rw [k.1 r o (h3 r hr), h5 o ho]; rfl)⟩
theorem sr_set {r m : Nat} {w0 w1 : World} (h : (∀ b o, b < r → w1.cell? ⟨b, o, none⟩ = w0.cell? ⟨b, o, none⟩) ∧ (∀ b o, b < w0.heap.size → w1.frozen? ⟨b, o, none⟩ = w0.frozen? ⟨b, o, none⟩) ∧ (∀ k, k < w0.heap.size → k < w1.heap.size) ∧ Below r w0 w1 ∧ (∀ o, o < m → w1.cell? ⟨r, o, none⟩ = some (cellD w1 r o))) (j : Nat) (v : Value) :
    (∀ b o, b < r → (w1.setCell ⟨r, j, none⟩ v).cell? ⟨b, o, none⟩ = w0.cell? ⟨b, o, none⟩) ∧ (∀ b o, b < w0.heap.size → (w1.setCell ⟨r, j, none⟩ v).frozen? ⟨b, o, none⟩ = w0.frozen? ⟨b, o, none⟩) ∧ (∀ k, k < w0.heap.size → k < (w1.setCell ⟨r, j, none⟩ v).heap.size) ∧ Below r w0 (w1.setCell ⟨r, j, none⟩ v) ∧ (∀ o, o < m → (w1.setCell ⟨r, j, none⟩ v).cell? ⟨r, o, none⟩ = some (cellD (w1.setCell ⟨r, j, none⟩ v) r o)) := by
  obtain ⟨h1, h2, h3, h4, h5⟩ := h
  refine ⟨fun b o hb => ?_, fun b o hb => (World.frozen?_setCell _ _ _ _).trans (h2 b o hb), fun k hk => by simpa [World.setCell] using h3 k hk, h4.setCell (Nat.le_refl _) _, fun o ho => ?_⟩
  · rw [cell_set, if_neg (by omega)]; exact h1 b o hb
  · refine cellD_of ?_
    rw [cell_set, h5 o ho]
    split <;> rfl
theorem sr_out {r : Nat} {w w0 w1 : World} (h : Below r w0 w1) (k : Since w w0) (hr : w.heap.size ≤ r) : Since w w1 := since_of (k.below.trans (h.mono hr))

/-- Block b's first n cells hold f, and none is frozen. -/
def Row (w : World) (b n : Nat) (f : Nat → Value) : Prop := (∀ j, j < n → w.cell? ⟨b, j, none⟩ = some (f j)) ∧ (∀ j, w.frozen? ⟨b, j, none⟩ = false) ∧ b < w.heap.size
section
variable {w w' : World} {b n : Nat} {f g : Nat → Value}
theorem Row.of_cells {cs : Array Value} {t : TypeId} (h : ∀ j, j < n → cs[j]? = some (f j)) : Row (w.alloc (.cells cs t)) w.heap.size n f := by
  refine ⟨fun j hj => ?_, fun j => ?_, by simp⟩
  · rw [World.cell?_alloc_new]; exact h j hj
  · rw [frozen?_alloc_cells]; simp [World.frozen?]
theorem Row.congr (h : Row w b n f) (e : ∀ j, j < n → f j = g j) : Row w b n g := ⟨fun j hj => by rw [h.1 j hj, e j hj], h.2⟩
theorem Row.drew (h : Row w b n f) : Row w.drew b n f := h
theorem Row.drewN (h : Row w b n f) (k : Nat) : Row (w.drewN k) b n f := h
theorem Row.alloc (h : Row w b n f) (o : Obj) : Row (w.alloc o) b n f :=
  ⟨fun j hj => (World.cell?_alloc_lt w o ⟨b, j, none⟩ h.2.2).trans (h.1 j hj), fun j => (World.frozen?_alloc_old w o ⟨b, j, none⟩ (Nat.ne_of_lt h.2.2)).trans (h.2.1 j), by have := h.2.2; simp; omega⟩
theorem Row.since (h : Row w b n f) (k : Since w w') : Row w' b n f := ⟨fun j hj => (k.1 b j h.2.2).trans (h.1 j hj), fun j => (k.2.1 b j h.2.2).trans (h.2.1 j), k.2.2.1 b h.2.2⟩
theorem Row.far (h : Row w b n f) {b' : Nat} (hb : b' ≠ b) (o : Nat) (v : Value) : Row (w.setCell ⟨b', o, none⟩ v) b n f :=
  ⟨fun j hj => by rw [cell_set, if_neg (fun e => hb e.1)]; exact h.1 j hj, fun j => (World.frozen?_setCell _ _ _ _).trans (h.2.1 j), by simpa [World.setCell] using h.2.2⟩
theorem Row.set (h : Row w b n f) (i : Nat) (v : Value) : Row (w.setCell ⟨b, i, none⟩ v) b n (fun j => if j = i then v else f j) := by
  refine ⟨fun j hj => ?_, fun j => (World.frozen?_setCell _ _ _ _).trans (h.2.1 j), by simpa [World.setCell] using h.2.2⟩
  rw [cell_set]
  by_cases e : j = i
  · subst e; rw [if_pos ⟨rfl, rfl⟩, h.1 j hj]; simp
  · rw [if_neg (fun x => e x.2.symm), h.1 j hj]; simp [e]
end

section
variable {H : Type} {enc : TypeId × Value → H} {P : Program}
/-- The law's last step where the call left all that was there as it was. -/
theorem post_since {f : Func} {s : ChangeSpec} {apart fresh handsOn again : Bool} {W W' : World} {args : Array Value} {v : Value} {ds gs : List (DataW H)} {before pa pv : List MemPlace}
    (hW : DataW.Whole enc P f.params.toList s.vars apart W args.toList ds gs before)
    (hres : ∀ (b : Nat) (sp : Nat → Bool) (hd : Bool), DataW.TrodAll enc P W' b sp hd f.resultTypes.toList (v.resultList f.resultTypes.size) (s.fn H (ds ++ gs)).results [])
    (hargs : ∀ sp : Nat → Bool, (∀ p ∈ before, sp p.block = true) → DataW.TrodAll enc P W' 0 sp true f.params.toList args.toList (s.fn H (ds ++ gs)).args pa)
    (hvars : ∀ sp : Nat → Bool, (∀ p ∈ before, sp p.block = true) → DataW.TrodVars enc P W' sp s.vars (s.fn H (ds ++ gs)).vars pv)
    (hps : before = pa ++ pv) (hb : Since W W')
    (hok : ∀ (j : Nat) (t : TypeId) (r : Value), f.resultTypes[j]? = some t → (v.resultList f.resultTypes.size)[j]? = some r → Value.okWide P W' .any 0 t r) :
    s.post enc P f apart fresh handsOn again W args v W' := by
  have B := hb.below
  have old : ∀ p ∈ before, p.block < W.heap.size := fun p hp => hW.lt p hp
  have kept : ∀ p ∈ before, (fun b => decide (b < W.heap.size)) p.block = true := fun p hp => by simpa using old p hp
  refine ⟨ds, gs, before, [], pa, pv, hW, hres _ _ _, hargs _ kept, hvars _ kept, World.keptBut_mono (fun p hp => ⟨hp, ?_⟩) (B.frame (· ∈ before)), fun _ => ?_⟩
  · rw [hps, List.mem_append] at hp
    exact Or.inr hp
  · obtain ⟨_, _, _, _, _, hz, hn⟩ := hW
    refine ⟨hok, _, _, ([] ++ pa) ++ pv, ⟨[] ++ pa, pv, trodAll_append (hargs _ (fun _ _ => rfl)) (hres _ _ _), hvars _ (fun _ _ => rfl), rfl, ?_, ?_⟩, ?_⟩
    · intro b off hp
      have inb : MemPlace.cell b off ∈ before := by rw [hps]; simpa using hp
      rw [B.frozen (old _ inb)]
      exact hz b off inb
    · intro ha
      have := hn ha
      rw [hps] at this
      simpa using this
    · intro p hp _
      rw [hps]
      simpa using hp
end
end Go.Proofs.Ytdbenpncnkfliaa

/-
  Words of this proof's own for slices: 'Rd' (a slice that reads as a function of the place), 'tab' (such a function's list), own rows.
-/
namespace Go.Proofs.Ytdbenpncnkfliaa
open Go.RowKit

def In64 (n : Int) : Prop := -9223372036854775808 ≤ n ∧ n ≤ 9223372036854775807

def tab (n : Nat) (V : Nat → Value) : List Value := (List.range n).map V
theorem tab_len (n : Nat) (V : Nat → Value) : (tab n V).length = n := by simp [tab]
theorem tab_get (n : Nat) (V : Nat → Value) (j : Nat) : (tab n V)[j]? = if j < n then some (V j) else none := by
  unfold tab
  split
  · rename_i h; simp [h]
  · rename_i h; simp [h]
theorem tab_congr {n : Nat} {V U : Nat → Value} (h : ∀ j, j < n → V j = U j) : tab n V = tab n U := by
  apply List.ext_getElem?
  intro j
  rw [tab_get, tab_get]
  split
  · rw [h j (by assumption)]
  · rfl
theorem tab_zero (V : Nat → Value) : tab 0 V = [] := rfl
theorem tab_append (n m : Nat) (V U : Nat → Value) : tab n V ++ tab m U = tab (n + m) (fun j => if j < n then V j else U (j - n)) := by
  apply List.ext_getElem?
  intro j
  rw [List.getElem?_append, tab_len, tab_get, tab_get, tab_get]
  by_cases h : j < n
  · rw [if_pos h, if_pos h, if_pos (by omega), if_pos h]
  · rw [if_neg h, if_neg h]
    by_cases h2 : j - n < m
    · rw [if_pos h2, if_pos (by omega)]
    · rw [if_neg h2, if_neg (by omega)]
theorem tab_one (V : Nat → Value) : tab 1 V = [V 0] := rfl
theorem tab_rep (n : Nat) (v : Value) : List.replicate n v = tab n (fun _ => v) := by
  apply List.ext_getElem?
  intro j
  rw [tab_get, List.getElem?_replicate]
def IntRow (k : IntKind) (f : Nat → Int) (j : Nat) : Value := .int k (f j)
theorem tab_ones {n : Nat} {k : IntKind} {f : Nat → Int} : ∀ u ∈ tab n (IntRow k f), u.oneCell' = true := by
  intro u hu
  unfold tab at hu
  rw [List.mem_map] at hu
  obtain ⟨j, _, rfl⟩ := hu
  rfl

/-- A slice's n elements read as V, in a block below B (nil and empty let in). -/
def Rd (w : World) (B : Nat) (A : Option Addr) (n : Nat) (V : Nat → Value) : Prop :=
  0 < n → ∃ b o, A = some ⟨b, o, none⟩ ∧ b < B ∧ ∀ j, j < n → w.cell? ⟨b, o + j, none⟩ = some (V j)
section
variable {w w' : World} {B B' n : Nat} {A : Option Addr} {V U : Nat → Value}
theorem Rd.zero : Rd w B A 0 V := fun h => absurd h (by omega)
theorem Rd.keep (h : Rd w B A n V) (hk : ∀ b o, b < B → w'.cell? ⟨b, o, none⟩ = w.cell? ⟨b, o, none⟩) : Rd w' B A n V := fun hn => by
  obtain ⟨b, o, rfl, hb, hc⟩ := h hn
  exact ⟨b, o, rfl, hb, fun j hj => (hk _ _ hb).trans (hc j hj)⟩
theorem Rd.more (h : Rd w B A n V) (hB : B ≤ B') : Rd w B' A n V := fun hn => by
  obtain ⟨b, o, rfl, hb, hc⟩ := h hn
  exact ⟨b, o, rfl, by omega, hc⟩
theorem Rd.congr (h : Rd w B A n V) (e : ∀ j, j < n → V j = U j) : Rd w B A n U := fun hn => by
  obtain ⟨b, o, rfl, hb, hc⟩ := h hn
  exact ⟨b, o, rfl, hb, fun j hj => (hc j hj).trans (by rw [e j hj])⟩
theorem Rd.since (h : Rd w B A n V) (hB : B ≤ w.heap.size) (k : Since w w') : Rd w' B A n V := h.keep fun b o hb => k.1 b o (by omega)
theorem Rd.on (h : Rd w w.heap.size A n V) (k : Since w w') : Rd w' w'.heap.size A n V := (h.since (Nat.le_refl _) k).more k.below.size
theorem Rd.drew (h : Rd w B A n V) : Rd w.drew B A n V := h
theorem Rd.drewN (h : Rd w B A n V) (k : Nat) : Rd (w.drewN k) B A n V := h
theorem Rd.alloc (h : Rd w B A n V) (hB : B ≤ w.heap.size) (o : Obj) : Rd (w.alloc o) B A n V := h.keep fun b p hb => World.cell?_alloc_lt w o ⟨b, p, none⟩ (show b < w.heap.size by omega)
theorem Rd.setCell (h : Rd w B A n V) {p : Addr} (hB : B ≤ p.block) (u : Value) : Rd (w.setCell p u) B A n V :=
  h.keep fun b o hb => World.cell?_setCell_other w p ⟨b, o, none⟩ u (fun e => by subst e; simp at hB; omega)
theorem Rd.of_row {b : Nat} (h : Row w b n V) : Rd w w.heap.size (some ⟨b, 0, none⟩) n V := fun _ => ⟨b, 0, rfl, h.2.2, fun j hj => by rw [Nat.zero_add]; exact h.1 j hj⟩
/-- The first cells alone; those from a place on, as the walk writes a slice expression. -/
theorem Rd.take (h : Rd w B A n V) {m : Nat} (hm : m ≤ n) : Rd w B A m V := fun h0 => by
  obtain ⟨b, o, rfl, hb, hc⟩ := h (by omega)
  exact ⟨b, o, rfl, hb, fun j hj => hc j (by omega)⟩
theorem Rd.drop (h : Rd w B A n V) {k cap m : Nat} (hk : k + m ≤ n) (hc : n ≤ cap) : Rd w B (if cap = k then A else A.map (·.add k)) m (fun j => V (k + j)) := fun h0 => by
  obtain ⟨b, o, rfl, hb, hcell⟩ := h (by omega)
  rw [if_neg (by omega)]
  refine ⟨b, o + k, ?_, hb, fun j hj => ?_⟩
  · unfold Addr.add; split <;> simp_all
  · rw [Nat.add_assoc]; exact hcell _ (by omega)
/-- An own row's cells. -/
theorem row_of_own {base : Nat} {e : TypeId} {g cap : Nat} (h : w.ownsRow base e 1 (.slice (some ⟨g, 0, none⟩) n cap) n (tab n V)) : Row w g n V := by
  refine ⟨fun j hj => ?_, fun j => h.frozenAt j, ?_⟩
  · rw [h.cellAt j (by omega), tab_get, if_pos hj]
  · rcases h.2 with ⟨e1, _⟩ | ⟨g', c', cur, e1, _, hh, _⟩
    · cases e1
    · injection e1 with e1 _ _
      injection e1 with e1
      injection e1 with e1
      subst e1
      rcases Nat.lt_or_ge g w.heap.size with hlt | hge
      · exact hlt
      · rw [Array.getElem?_eq_none hge] at hh; cases hh
theorem own_base {base : Nat} {e : TypeId} {g cap : Nat} {xs : List Value} (h : w.ownsRow base e 1 (.slice (some ⟨g, 0, none⟩) n cap) n xs) : base ≤ g := by
  rcases h.2 with ⟨e1, _⟩ | ⟨g', c', cur, e1, hb, _⟩
  · cases e1
  · injection e1 with e1 _ _
    injection e1 with e1
    injection e1 with e1
    omega
theorem own_since {base : Nat} {e : TypeId} {v : Value} {xs : List Value} (h : w.ownsRow base e 1 v n xs) (k : Since w w') : w'.ownsRow base e 1 v n xs := by
  refine ⟨h.1, ?_⟩
  rcases h.2 with h0 | ⟨g, cap, cur, e1, hb, hh, r⟩
  · exact .inl h0
  · refine .inr ⟨g, cap, cur, e1, hb, ?_, r⟩
    have hlt : g < w.heap.size := by
      rcases Nat.lt_or_ge g w.heap.size with hlt | hge
      · exact hlt
      · rw [Array.getElem?_eq_none hge] at hh; cases hh
    rw [k.below.block g hlt]; exact hh
theorem since_grown {w0 : World} {row : Option Nat} (h : Since w0 w) (hg : w.grownBy w' row) (hr : ∀ k, row = some k → w0.heap.size ≤ k) : Since w0 w' := since_of (h.below.grown hg h.below.size hr)
end

section
variable {P : Program} (w : World)
/-- append to a row of the call's own that is no nil: of elements that read so, nil and empty let in: the new value written out, and where it lies. -/
theorem run_append_rd (base : Nat) (t ty e : TypeId) (i : TypeInfo) (z : Value) (bytes : Nat) (ht : P.underlying t = some (.slice e)) (hi : P.info? e = some i) (hz : i.zero = some z)
    (hsize : i.size = 1) (hby : i.bytes = bytes) (hzs : z.cells.size = 1) (g cap n : Nat) (xs : List Value) (hown : w.ownsRow base e 1 (.slice (some ⟨g, 0, none⟩) n cap) n xs)
    (B : Nat) (A : Option Addr) (m c : Nat) (V : Nat → Value) (hr : Rd w B A m V) (h1 : ∀ u ∈ tab m V, u.oneCell' = true) (hbytes : (n + m) * bytes ≤ 140737488355328) (h63 : n + m ≤ maxLen) (hbase : base ≤ w.heap.size) :
    ∃ g' cap' w', (Builtin.append_ #[t, t] ty #[.slice (some ⟨g, 0, none⟩) n cap, .slice A m c]).run P w = .ok (.slice (some ⟨g', 0, none⟩) (n + m) cap') w' ∧ w'.ownsRow base e 1 (.slice (some ⟨g', 0, none⟩) (n + m) cap') (n + m) (xs ++ tab m V) ∧ w.grownBy w' (some g) ∧ (g' = g ∨ g' = w.heap.size) := by
  have hcap : n ≤ cap := by
    rcases hown.2 with ⟨e1, _⟩ | ⟨_, _, _, e1, _, _, hnc, _⟩
    · cases e1
    · injection e1 with _ _ e3; omega
  rcases A with _ | ad
  · have hm : m = 0 := by
      rcases Nat.eq_zero_or_pos m with h0 | h0
      · exact h0
      · obtain ⟨b, o, h, _⟩ := hr h0; cases h
    subst hm
    refine ⟨g, cap, w, ?_, by simpa [tab_zero] using hown, World.grownBy.refl w _, .inl rfl⟩
    simp [Builtin.append_, run_underlying ht, sizeOf, typeInfo, hi, Builtin.lenOf, Builtin.firstCells, hcap, storeCells]
  · have hc : ∀ j u, (tab m V)[j]? = some u → w.cell? (ad.add j) = some u := by
      intro j u hu
      rw [tab_get] at hu
      split at hu
      · rename_i hj
        obtain ⟨b, o, h, _, hc⟩ := hr (by omega)
        injection h with h; subst h; injection hu with hu; subst hu
        rw [← hc j hj]
        unfold Addr.add; split <;> simp_all
      · cases hu
    obtain ⟨v', w', hrun, h2, h3, h4, h5⟩ := run_append_own_at (P := P) w base t ty e i z 1 bytes ht hi hz hsize hby hzs (by omega) _ n xs hown ad m c (tab m V) (by rw [tab_len]; omega) hc h1 h63 hbytes hbase
    rcases h2.2 with ⟨e1, _⟩ | ⟨g', cap', _, e1, _⟩
    · exact absurd (h4.mp e1).1 (by simp)
    · subst e1
      refine ⟨g', cap', w', hrun, h2, h3, ?_⟩
      rcases h5 with h5 | h5
      · left; simpa [Value.ownBlock] using h5
      · right; simpa [Value.ownBlock] using h5

theorem wpList_append_rd {ops : Array Oper} {rest : List Oper} {o : Oper} {a : Act} {Q : Exit → Act → World → Prop} (hgd : o.guard = none) (s x : Operand) (t : TypeId)
    (ho : o.op = .call { callee := .builtin .append, args := #[s, x], argTypes := #[t, t] })
    (base : Nat) (e : TypeId) (i : TypeInfo) (z : Value) (bytes : Nat) (ht : P.underlying t = some (.slice e)) (hi : P.info? e = some i) (hz : i.zero = some z)
    (hsize : i.size = 1) (hby : i.bytes = bytes) (hzs : z.cells.size = 1) (g cap n : Nat) (xs : List Value) (hs : a.eval s = .slice (some ⟨g, 0, none⟩) n cap) (hown : w.ownsRow base e 1 (.slice (some ⟨g, 0, none⟩) n cap) n xs)
    (B : Nat) (A : Option Addr) (m c : Nat) (V : Nat → Value) (hx : a.eval x = .slice A m c) (hr : Rd w B A m V) (h1 : ∀ u ∈ tab m V, u.oneCell' = true) (hbytes : (n + m) * bytes ≤ 140737488355328) (h63 : n + m ≤ maxLen) (hbase : base ≤ w.heap.size)
    (h : ∀ g' cap' w', w'.ownsRow base e 1 (.slice (some ⟨g', 0, none⟩) (n + m) cap') (n + m) (xs ++ tab m V) → w.grownBy w' (some g) → (g' = g ∨ g' = w.heap.size) → wpList P ops Q rest (a.put o.dst (.slice (some ⟨g', 0, none⟩) (n + m) cap')) w') :
    wpList P ops Q (o :: rest) a w := by
  refine wpList_plain hgd fun K hK => ?_
  obtain ⟨g', cap', w', hr, h2, h3, h4⟩ := run_append_rd (P := P) w base t o.type e i z bytes ht hi hz hsize hby hzs g cap n xs hown B A m c V hr h1 hbytes h63 hbase
  unfold Oper.wp execOp
  simp only [ho, resolve, invoke, builtin, Sem.run_bind, Sem.run_pure, Result.andThen_ok, List.map_toArray, List.map_cons, List.map_nil, hs, hx, hr]
  exact hK _ _ (h g' cap' w' h2 h3 h4)
end

section
variable {P : Program} (w : World)
/-- make([]T, n), T of one cell: an own row of noughts. -/
theorem wpList_make_tab {ops : Array Oper} {rest : List Oper} {o : Oper} {a : Act} {Q : Exit → Act → World → Prop}
    (hg : o.guard = none) (l c : Operand) (t : TypeId) (hop : o.op = Op.makeSlice t l c)
    (e : TypeId) (i : TypeInfo) (k : IntKind) (bytes : Nat) (h1 : P.underlying t = some (.slice e)) (h2 : P.info? e = some i) (h3 : i.zero = some (.int k 0)) (h4 : i.size = 1) (h5 : i.bytes = bytes)
    (kl kc : IntKind) (n : Nat) (hl : a.eval l = .int kl (n : Int)) (hc : a.eval c = .int kc (n : Int)) (b2 : bytes * n ≤ 281474976710656) (b3 : n ≤ maxLen)
    (hK : ∀ w', w'.ownsRow w.heap.size e 1 (.slice (some ⟨w.heap.size, 0, none⟩) n n) n (tab n (IntRow k (fun _ => 0))) → Since w w' → wpList P ops Q rest (a.put o.dst (.slice (some ⟨w.heap.size, 0, none⟩) n n)) w') :
    wpList P ops Q (o :: rest) a w := by
  refine wpList_make_full w hg l c t hop w.heap.size e i (.int k 0) 1 h1 h2 h3 h4 kl kc (n : Int) (n : Int) n hl hc rfl rfl (by rw [h5]; exact b2) b3 (Nat.le_refl _) (fun w' hown hgr => hK w' ?_ (since_grown (Since.refl w) hgr (fun k hk => by cases hk)))
  have e1 : (madeCells (Value.int k 0).cells (n * 1)).toList = tab n (IntRow k (fun _ => 0)) := by
    rw [show (Value.int k 0).cells = #[.int k 0] from rfl, Nat.mul_one, toList_madeCells_one, tab_rep]
    rfl
  rw [e1] at hown
  exact hown
end
end Go.Proofs.Ytdbenpncnkfliaa

/-
  Whole numbers below 2^53 as float64: the words, and that sums, differences and products of them are exact.
-/
namespace Go.Proofs.Ytdbenpncnkfliaa
open Ieee

/-- A number with a sign, a magnitude and a place is n (its sign told by neg, also of nought). -/
def ValueIs (m : Nat) (p : Int) (n : Nat) : Prop := (0 ≤ p ∧ n = m * 2 ^ p.toNat) ∨ (p < 0 ∧ m = n * 2 ^ (-p).toNat)

theorem log2_mul_pow (n k : Nat) (h : n ≠ 0) : (n * 2 ^ k).log2 = n.log2 + k := by
  induction k with
  | zero => simp
  | succ k ih =>
    rw [Nat.pow_succ, ← Nat.mul_assoc, Nat.mul_comm (n * 2 ^ k) 2, Nat.log2_two_mul (by have := Nat.pos_of_ne_zero h; have := Nat.two_pow_pos k; exact Nat.ne_of_gt (Nat.mul_pos ‹_› ‹_›)), ih]
    omega
/-- What is kept of a number that fits. -/
theorem cut_exact (neg : Bool) (x drop : Nat) (h : drop ≤ (x * 2 ^ drop).log2 + 2) : Toward.even.cut neg (x * 2 ^ drop) drop = x := by
  unfold Toward.cut
  rw [Nat.min_eq_left h]
  have hp := Nat.two_pow_pos drop
  have hgap : 1 <<< drop = 2 ^ drop := by rw [Nat.shiftLeft_eq, Nat.one_mul]
  have h1 : x * 2 ^ drop / 2 ^ drop = x := Nat.mul_div_cancel _ hp
  have h2 : x * 2 ^ drop % 2 ^ drop = 0 := Nat.mul_mod_left _ _
  simp only [hgap, h1, h2]
  have h3 : ¬ (2 ^ drop < 2 * 0) := by omega
  have h4 : (2 ^ drop == 2 * 0) = false := by simp
  simp [h4]
theorem least_double : double.leastPlace = -1074 := by decide
theorem frac_double : double.fractionBits = 52 := rfl
theorem binade_double : double.binade = 2 ^ 52 := rfl
theorem inf_double : double.infRung = 2047 * 2 ^ 52 := by decide
theorem sign_double : double.signWeight = 2 ^ 63 := rfl
/-- The rung of a whole number. -/
def rungOf (n : Nat) : Nat := (1022 + n.log2) * 2 ^ 52 + n * 2 ^ (52 - n.log2)
theorem sig_range {n : Nat} (h0 : n ≠ 0) (h : n < 2 ^ 53) : 2 ^ 52 ≤ n * 2 ^ (52 - n.log2) ∧ n * 2 ^ (52 - n.log2) < 2 ^ 53 ∧ n.log2 ≤ 52 := by
  have hl : n.log2 ≤ 52 := by
    have := (Nat.log2_lt h0).2 h
    omega
  have h1 := Nat.log2_self_le h0
  have h2 := Nat.lt_log2_self (n := n)
  have hp := Nat.two_pow_pos (52 - n.log2)
  refine ⟨?_, ?_, hl⟩
  · calc 2 ^ 52 = 2 ^ n.log2 * 2 ^ (52 - n.log2) := by rw [← Nat.pow_add]; congr 1; omega
      _ ≤ n * 2 ^ (52 - n.log2) := Nat.mul_le_mul_right _ h1
  · calc n * 2 ^ (52 - n.log2) < 2 ^ (n.log2 + 1) * 2 ^ (52 - n.log2) := Nat.mul_lt_mul_of_pos_right h2 hp
      _ = 2 ^ 53 := by rw [← Nat.pow_add]; congr 1; omega
theorem fit_rung (Q L S : Nat) (hl : L ≤ 52) (hs : S < 2 * Q) : (1022 + L) * Q + S ≤ 2047 * Q := by
  have : (1022 + L) * Q ≤ 1074 * Q := Nat.mul_le_mul_right _ (by omega)
  omega
set_option maxRecDepth 100000 in
/-- A number's word hangs on its value alone. -/
theorem nearest_whole (neg : Bool) (m : Nat) (p : Int) (n : Nat) (h0 : n ≠ 0) (hn : n < 2 ^ 53) (h : ValueIs m p n) : double.nearest neg m p = double.word neg (rungOf n) := by
  obtain ⟨s1, s2, hl⟩ := sig_range h0 hn
  have hm : m ≠ 0 := by
    rintro rfl
    rcases h with ⟨_, h⟩ | ⟨_, h⟩
    · simp at h; exact h0 h
    · have := Nat.mul_pos (Nat.pos_of_ne_zero h0) (Nat.two_pow_pos (-p).toNat); omega
  have hlog : (m.log2 : Int) + p = n.log2 := by
    rcases h with ⟨hp, h⟩ | ⟨hp, h⟩
    · rw [h, log2_mul_pow _ _ hm]; omega
    · rw [h, log2_mul_pow _ _ h0]; omega
  unfold Format.nearest
  rw [if_neg hm]
  have hlast : max (p + m.log2 - double.fractionBits) double.leastPlace = (n.log2 : Int) - 52 := by
    rw [least_double, frac_double]; omega
  simp only [hlast]
  have hkept : Toward.even.cut neg (m <<< (p - ((n.log2 : Int) - 52)).toNat) (((n.log2 : Int) - 52) - p).toNat = n * 2 ^ (52 - n.log2) := by
    generalize n.log2 = L at hl hlog ⊢
    by_cases hc : (L : Int) - 52 ≤ p
    · have e1 : (((L : Int) - 52) - p).toNat = 0 := by omega
      rw [e1]
      have := cut_exact neg (m <<< (p - ((L : Int) - 52)).toNat) 0 (by omega)
      rw [Nat.pow_zero, Nat.mul_one] at this
      rw [this, Nat.shiftLeft_eq]
      rcases h with ⟨hp, h⟩ | ⟨hp, h⟩
      · rw [h, Nat.mul_assoc, ← Nat.pow_add]
        congr 2; omega
      · rw [h, Nat.mul_assoc, ← Nat.pow_add]
        congr 2; omega
    · have e1 : (p - ((L : Int) - 52)).toNat = 0 := by omega
      rw [e1, Nat.shiftLeft_eq, Nat.pow_zero, Nat.mul_one]
      rcases h with ⟨hp, h⟩ | ⟨hp, h⟩
      · omega
      · have e2 : m = n * 2 ^ (52 - L) * 2 ^ (((L : Int) - 52) - p).toNat := by
          rw [h, Nat.mul_assoc, ← Nat.pow_add]
          congr 2; omega
        rw [e2]
        refine cut_exact neg _ _ ?_
        rw [← e2]
        omega
  rw [hkept, least_double, binade_double, inf_double]
  have e3 : ((n.log2 : Int) - 52 - -1074).toNat = 1022 + n.log2 := by omega
  rw [e3]
  unfold rungOf
  rw [Nat.min_eq_left (fit_rung (2 ^ 52) n.log2 _ hl (Nat.lt_of_lt_of_eq s2 rfl))]
set_option maxRecDepth 100000 in
/-- What such a word stands for. -/
theorem read_whole (neg : Bool) (n : Nat) (h0 : n ≠ 0) (hn : n < 2 ^ 53) : double.read (double.word neg (rungOf n)) = .number neg (n * 2 ^ (52 - n.log2)) ((n.log2 : Int) - 52) := by
  obtain ⟨s1, s2, hl⟩ := sig_range h0 hn
  have hr1 : rungOf n = (1023 + n.log2) * 2 ^ 52 + (n * 2 ^ (52 - n.log2) - 2 ^ 52) := by unfold rungOf; omega
  have hlow : n * 2 ^ (52 - n.log2) - 2 ^ 52 < 2 ^ 52 := by omega
  have hr2 : rungOf n < 2 ^ 63 := by
    rw [hr1]
    have : (1023 + n.log2) * 2 ^ 52 ≤ 1075 * 2 ^ 52 := Nat.mul_le_mul_right _ (by omega)
    omega
  have hneg : (double.word neg (rungOf n) / 2 ^ 63 % 2 == 1) = neg := by
    unfold Format.word
    rw [sign_double]
    cases neg
    · simp only [Bool.false_eq_true, if_false]
      rw [Nat.div_eq_of_lt hr2]; rfl
    · simp only [if_true]
      rw [Nat.add_div_left _ (by decide), Nat.div_eq_of_lt hr2]; rfl
  have hmod : double.word neg (rungOf n) % 2 ^ 63 = rungOf n := by
    unfold Format.word
    rw [sign_double]
    cases neg
    · simp only [Bool.false_eq_true, if_false]; exact Nat.mod_eq_of_lt hr2
    · simp only [if_true]; rw [Nat.add_mod_left]; exact Nat.mod_eq_of_lt hr2
  unfold Format.read
  rw [sign_double, hneg, hmod, binade_double, inf_double, least_double]
  have hd : rungOf n / 2 ^ 52 = 1023 + n.log2 := by rw [hr1, Nat.mul_comm, Nat.mul_add_div (by decide), Nat.div_eq_of_lt hlow]; rfl
  have hmd : rungOf n % 2 ^ 52 = n * 2 ^ (52 - n.log2) - 2 ^ 52 := by rw [hr1, Nat.mul_comm, Nat.mul_add_mod, Nat.mod_eq_of_lt hlow]
  have hge : ¬ rungOf n < 2 ^ 52 := by
    have : 1 * 2 ^ 52 ≤ (1023 + n.log2) * 2 ^ 52 := Nat.mul_le_mul_right _ (by omega)
    omega
  have hlt : rungOf n < 2047 * 2 ^ 52 := by
    have : (1023 + n.log2) * 2 ^ 52 ≤ 1075 * 2 ^ 52 := Nat.mul_le_mul_right _ (by omega)
    omega
  have e1 : 2 ^ 52 + (n * 2 ^ (52 - n.log2) - 2 ^ 52) = n * 2 ^ (52 - n.log2) := Nat.add_sub_of_le s1
  have e2 : (-1074 : Int) + ((1023 + n.log2 - 1 : Nat) : Int) = (n.log2 : Int) - 52 := by omega
  simp only [if_neg hge, if_pos hlt, hd, hmd, e1, e2]
theorem read_zero (neg : Bool) : double.read (double.word neg 0) = .number neg 0 (-1074) := by cases neg <;> decide
theorem nearest_zero (neg : Bool) (p : Int) : double.nearest neg 0 p = double.word neg 0 := by unfold Format.nearest; rw [if_pos rfl]
/-- A magnitude with its sign. -/
def sg (s : Bool) (m : Nat) : Int := if s then -(m : Int) else m
theorem sg_abs (s : Bool) (m : Nat) : (sg s m).natAbs = m := by unfold sg; split <;> omega
/-- Sign, magnitude and place are the whole number n. -/
def Is (s : Bool) (m : Nat) (p : Int) (n : Int) : Prop := ∃ k : Nat, 0 ≤ p + k ∧ sg s m * 2 ^ (p + k).toNat = n * 2 ^ k
theorem Is.more {s : Bool} {m : Nat} {p n : Int} {k : Nat} (h0 : 0 ≤ p + k) (h : sg s m * 2 ^ (p + k).toNat = n * 2 ^ k) (j : Nat) : 0 ≤ p + (k + j : Nat) ∧ sg s m * 2 ^ (p + (k + j : Nat)).toNat = n * 2 ^ (k + j) := by
  refine ⟨by omega, ?_⟩
  rw [show (p + (k + j : Nat)).toNat = (p + k).toNat + j by omega, Int.pow_add, Int.pow_add, ← Int.mul_assoc, h, Int.mul_assoc]
theorem Is.abs {s : Bool} {m : Nat} {p n : Int} (h : Is s m p n) : ∃ k : Nat, 0 ≤ p + k ∧ m * 2 ^ (p + k).toNat = n.natAbs * 2 ^ k := by
  obtain ⟨k, h0, h⟩ := h
  refine ⟨k, h0, ?_⟩
  have := congrArg Int.natAbs h
  rw [Int.natAbs_mul, Int.natAbs_mul, sg_abs, Int.natAbs_pow, Int.natAbs_pow] at this
  exact this
theorem Is.value {s : Bool} {m : Nat} {p n : Int} (h : Is s m p n) : ValueIs m p n.natAbs := by
  obtain ⟨k, h0, h⟩ := h.abs
  have hp := Nat.two_pow_pos k
  by_cases hpp : 0 ≤ p
  · refine .inl ⟨hpp, ?_⟩
    rw [show (p + k).toNat = p.toNat + k by omega, Nat.pow_add, ← Nat.mul_assoc] at h
    exact (Nat.eq_of_mul_eq_mul_right hp h).symm
  · refine .inr ⟨by omega, ?_⟩
    have hq := Nat.two_pow_pos (p + k).toNat
    rw [show k = (-p).toNat + (p + k).toNat by omega, Nat.pow_add, ← Nat.mul_assoc] at h
    rw [show (p + ((-p).toNat + (p + k).toNat : Nat)).toNat = (p + k).toNat by omega] at h
    exact Nat.eq_of_mul_eq_mul_right hq h
theorem Is.sign {s : Bool} {m : Nat} {p n : Int} (h : Is s m p n) (hn : n ≠ 0) : s = decide (n < 0) := by
  obtain ⟨k, h0, h⟩ := h
  have h1 : (0 : Int) < 2 ^ (p + k).toNat := Int.pow_pos (by decide)
  have h2 : (0 : Int) < 2 ^ k := Int.pow_pos (by decide)
  unfold sg at h
  cases s
  · simp only [Bool.false_eq_true, if_false] at h
    have : 0 ≤ n * 2 ^ k := by rw [← h]; exact Int.mul_nonneg (by omega) (by omega)
    have : 0 ≤ n := by
      rcases Int.lt_or_le n 0 with hl | hl
      · have := Int.mul_neg_of_neg_of_pos hl h2; omega
      · exact hl
    have hd : ¬ n < 0 := by omega
    simp [hd]
  · simp only [if_true] at h
    have h3 : -(m : Int) * 2 ^ (p + k).toNat ≤ 0 := by
      have : 0 ≤ (m : Int) * 2 ^ (p + k).toNat := Int.mul_nonneg (by omega) (by omega)
      rw [Int.neg_mul]; omega
    have : n < 0 := by
      rcases Int.lt_or_le n 0 with hl | hl
      · exact hl
      · have : 0 < n * 2 ^ k := Int.mul_pos (by omega) h2
        omega
    simp [this]
theorem Is.zero {s : Bool} {m : Nat} {p : Int} (h : Is s m p 0) : m = 0 := by
  rcases h.value with ⟨_, h⟩ | ⟨_, h⟩
  · have hp := Nat.two_pow_pos p.toNat
    simp at h
    rcases Nat.mul_eq_zero.1 h.symm with h | h
    · exact h
    · omega
  · simpa using h
/-- A word stands for the whole number n (nought may have either sign). -/
def Stands (b : Nat) (n : Int) : Prop := ∃ s m p, double.read b = .number s m p ∧ Is s m p n
theorem is_whole (s : Bool) (n : Int) (h : n ≠ 0 → s = decide (n < 0)) : Is s n.natAbs 0 n := by
  refine ⟨0, by omega, ?_⟩
  simp only [Int.add_zero, Int.toNat_zero, Int.pow_zero, Int.mul_one, Int.cast_ofNat_Int]
  unfold sg
  by_cases hn : n = 0
  · subst hn; simp
  · rw [h hn]
    by_cases hl : n < 0
    · simp [hl]; omega
    · simp [hl]; omega
theorem is_zero (s : Bool) (p : Int) : Is s 0 p 0 := ⟨p.natAbs, by omega, by unfold sg; split <;> simp⟩
set_option maxRecDepth 100000 in
theorem stands_write {s : Bool} {m : Nat} {p n : Int} (h : Is s m p n) (hn : n.natAbs < 2 ^ 53) : Stands (double.write (.number s m p)) n := by
  show Stands (double.nearest s m p) n
  by_cases h0 : n = 0
  · subst h0
    have hm := h.zero
    subst hm
    rw [nearest_zero]
    exact ⟨s, 0, -1074, read_zero s, is_zero s _⟩
  · have h1 : n.natAbs ≠ 0 := by omega
    rw [nearest_whole s m p n.natAbs h1 hn h.value]
    obtain ⟨_, _, hl⟩ := sig_range h1 hn
    refine ⟨s, _, _, read_whole s n.natAbs h1 hn, 52, by omega, ?_⟩
    have hs := h.sign h0
    have e : ((n.natAbs.log2 : Int) - 52 + (52 : Nat)).toNat = n.natAbs.log2 := by omega
    rw [e]
    have e2 : n.natAbs * 2 ^ (52 - n.natAbs.log2) * 2 ^ n.natAbs.log2 = n.natAbs * 2 ^ 52 := by
      rw [Nat.mul_assoc, ← Nat.pow_add]; congr 2; omega
    have e3 : ((n.natAbs * 2 ^ (52 - n.natAbs.log2) : Nat) : Int) * 2 ^ n.natAbs.log2 = (n.natAbs : Int) * 2 ^ 52 := by
      have := congrArg (fun x : Nat => (x : Int)) e2
      simpa [Int.natCast_mul, Int.natCast_pow] using this
    unfold sg
    rw [hs]
    by_cases hneg : n < 0
    · simp only [hneg, decide_true, if_true]
      rw [Int.neg_mul, e3, ← Int.neg_mul]
      congr 1; omega
    · simp only [hneg, decide_false, Bool.false_eq_true, if_false]
      rw [e3]
      congr 1; omega
set_option maxRecDepth 100000 in
theorem stands_int (n : Int) (hn : n.natAbs < 2 ^ 53) : Stands (floatOfInt .f64 n) n :=
  stands_write (is_whole (n < 0) n (fun _ => rfl)) hn
theorem sg_mul (s t : Bool) (m n : Nat) : sg (s ^^ t) (m * n) = sg s m * sg t n := by
  unfold sg
  cases s <;> cases t <;> simp [Int.natCast_mul, Int.neg_mul, Int.mul_neg]
theorem stands_mul {a b : Nat} {x y : Int} (ha : Stands a x) (hb : Stands b y) (h : (x * y).natAbs < 2 ^ 53) : ∃ r, floatBits .mul .f64 a b = some r ∧ Stands r (x * y) := by
  obtain ⟨s, m, p, hra, k, hk, e⟩ := ha
  obtain ⟨t, n, q, hrb, j, hj, e2⟩ := hb
  refine ⟨double.write (.number (s ^^ t) (m * n) (p + q)), ?_, stands_write ⟨k + j, by omega, ?_⟩ h⟩
  · show double.mul a b = _
    unfold Format.mul
    rw [hra, hrb]; rfl
  · rw [show (p + q + (k + j : Nat)).toNat = (p + k).toNat + (q + j).toNat by omega, Int.pow_add, Int.pow_add, sg_mul]
    have : sg s m * sg t n * (2 ^ (p + k).toNat * 2 ^ (q + j).toNat) = (sg s m * 2 ^ (p + k).toNat) * (sg t n * 2 ^ (q + j).toNat) := by
      simp only [Int.mul_assoc, Int.mul_left_comm]
    rw [this, e, e2]
    simp only [Int.mul_assoc, Int.mul_left_comm]
theorem signed_sg (s : Bool) (m up : Nat) : signed s m up = sg s m * 2 ^ up := by
  unfold signed sg
  rw [Nat.shiftLeft_eq]
  cases s <;> simp [Int.natCast_mul, Int.natCast_pow, Int.neg_mul]
theorem is_sum {s t : Bool} {m n : Nat} {p q x y : Int} (h1 : Is s m p x) (h2 : Is t n q y) (z : Bool) : Is (if signed s m (p - min p q).toNat + signed t n (q - min p q).toNat = 0 then z else decide (signed s m (p - min p q).toNat + signed t n (q - min p q).toNat < 0)) (signed s m (p - min p q).toNat + signed t n (q - min p q).toNat).natAbs (min p q) (x + y) := by
  obtain ⟨k, hk, e⟩ := h1
  obtain ⟨j, hj, e2⟩ := h2
  obtain ⟨hk', e'⟩ := Is.more hk e j
  obtain ⟨hj', e2'⟩ := Is.more hj e2 k
  refine ⟨k + j, by omega, ?_⟩
  have hsg : ∀ T : Int, sg (if T = 0 then z else decide (T < 0)) T.natAbs = T := fun T => by
    unfold sg
    by_cases h0 : T = 0
    · subst h0; simp
    · rw [if_neg h0]
      by_cases hl : T < 0
      · simp [hl]; omega
      · simp [hl]; omega
  rw [hsg, signed_sg, signed_sg, Int.add_mul, Int.mul_assoc, Int.mul_assoc, ← Int.pow_add, ← Int.pow_add]
  rw [show (p - min p q).toNat + (min p q + (k + j : Nat)).toNat = (p + (k + j : Nat)).toNat by omega,
    show (q - min p q).toNat + (min p q + (k + j : Nat)).toNat = (q + (j + k : Nat)).toNat by omega, e', e2', Int.add_mul, Nat.add_comm j k]
theorem stands_add {a b : Nat} {x y : Int} (ha : Stands a x) (hb : Stands b y) (h : (x + y).natAbs < 2 ^ 53) : ∃ r, floatBits .add .f64 a b = some r ∧ Stands r (x + y) := by
  obtain ⟨s, m, p, hra, ha⟩ := ha
  obtain ⟨t, n, q, hrb, hb⟩ := hb
  refine ⟨_, ?_, stands_write (is_sum ha hb (s && t)) h⟩
  show double.add a b = _
  unfold Format.add
  rw [hra, hrb]; rfl
theorem Is.neg {s : Bool} {m : Nat} {p n : Int} (h : Is s m p n) : Is (!s) m p (-n) := by
  obtain ⟨k, hk, e⟩ := h
  refine ⟨k, hk, ?_⟩
  have : sg (!s) m = - sg s m := by unfold sg; cases s <;> simp
  rw [this, Int.neg_mul, Int.neg_mul, e]
theorem stands_sub {a b : Nat} {x y : Int} (ha : Stands a x) (hb : Stands b y) (h : (x - y).natAbs < 2 ^ 53) : ∃ r, floatBits .sub .f64 a b = some r ∧ Stands r (x - y) := by
  obtain ⟨s, m, p, hra, ha⟩ := ha
  obtain ⟨t, n, q, hrb, hb⟩ := hb
  refine ⟨_, ?_, by have := stands_write (is_sum ha hb.neg (s && !t)) (by rw [← Int.sub_eq_add_neg]; exact h); rw [← Int.sub_eq_add_neg] at this; exact this⟩
  show double.sub a b = _
  unfold Format.sub
  rw [hra, hrb]; rfl
set_option maxRecDepth 100000 in
theorem stands_toInt {b : Nat} {n : Int} (h : Stands b n) (hn : n.natAbs < 2 ^ 53) : floatToIntVal .f64 b .i64 = some n := by
  obtain ⟨s, m, p, hr, hi⟩ := h
  unfold floatToIntVal
  have hcut : Toward.zero.cut s (m <<< p.toNat) (-p).toNat = n.natAbs := by
    rcases hi.value with ⟨hp, e⟩ | ⟨hp, e⟩
    · rw [show (-p).toNat = 0 by omega, Nat.shiftLeft_eq, ← e]
      simp [Toward.cut]
    · rw [show p.toNat = 0 by omega, Nat.shiftLeft_eq, Nat.pow_zero, Nat.mul_one]
      by_cases h0 : n = 0
      · subst h0
        have := hi.zero
        subst this
        simp [Toward.cut]
      · have hle : (-p).toNat ≤ m.log2 + 2 := by
          rw [e, log2_mul_pow _ _ (by omega)]; omega
        unfold Toward.cut
        rw [Nat.min_eq_left hle, Nat.shiftLeft_eq, Nat.one_mul, e]
        simp [Nat.mul_div_cancel _ (Nat.two_pow_pos _)]
  have hv : (FloatKind.f64.decode b).toInt .zero = some n := by
    show (double.read b).toInt .zero = some n
    rw [hr]
    unfold Datum.toInt Datum.integral
    simp only [hcut, signed_sg, Int.pow_zero, Int.mul_one]
    congr 1
    unfold sg
    by_cases h0 : n = 0
    · subst h0; simp
    · rw [hi.sign h0]
      by_cases hl : n < 0
      · simp [hl]; omega
      · simp [hl]; omega
  rw [hv]
  have h1 : IntKind.i64.min = -9223372036854775808 := rfl
  have h2 : IntKind.i64.max = 9223372036854775807 := rfl
  simp only [h1, h2]
  rw [if_pos (by omega)]

set_option maxRecDepth 100000 in
theorem xor_top (b : Nat) : (b ^^^ 2 ^ 63) % 2 ^ 63 = b % 2 ^ 63 ∧ ((b ^^^ 2 ^ 63) / 2 ^ 63 % 2 == 1) = !(b / 2 ^ 63 % 2 == 1) := by
  constructor
  · rw [Nat.xor_mod_two_pow, Nat.mod_self, Nat.xor_zero]
  · have h1 := Nat.testBit_eq_decide_div_mod_eq (x := b ^^^ 2 ^ 63) (i := 63)
    have h2 := Nat.testBit_eq_decide_div_mod_eq (x := b) (i := 63)
    rw [Nat.testBit_xor, h2, Nat.testBit_two_pow_self] at h1
    show decide ((b ^^^ 2 ^ 63) / 2 ^ 63 % 2 = 1) = !decide (b / 2 ^ 63 % 2 = 1)
    rw [← h1]
    cases decide (b / 2 ^ 63 % 2 = 1) <;> rfl
set_option maxRecDepth 100000 in
theorem stands_neg {b : Nat} {n : Int} (h : Stands b n) : Stands (b ^^^ 9223372036854775808) (-n) := by
  obtain ⟨s, m, p, hr, hi⟩ := h
  refine ⟨!s, m, p, ?_, hi.neg⟩
  obtain ⟨e1, e2⟩ := xor_top b
  rw [show (9223372036854775808 : Nat) = 2 ^ 63 from rfl]
  unfold Format.read at hr ⊢
  rw [sign_double] at hr ⊢
  simp only [e1, e2]
  simp only at hr
  split at hr
  · rename_i h1
    rw [if_pos h1]
    injection hr with a1 a2 a3
    subst a1 a2 a3
    rfl
  · rename_i h1
    rw [if_neg h1]
    split at hr
    · rename_i h2
      rw [if_pos h2]
      injection hr with a1 a2 a3
      subst a1 a2 a3
      rfl
    · rename_i h2
      split at hr <;> cases hr
theorem mul_pow_lt {a b : Int} {k : Nat} : a * 2 ^ k < b * 2 ^ k ↔ a < b :=
  ⟨fun h => Int.lt_of_mul_lt_mul_right h (Int.le_of_lt (Int.pow_pos (by decide))), fun h => Int.mul_lt_mul_of_pos_right h (Int.pow_pos (by decide))⟩
theorem stands_order {a b : Nat} {x y : Int} (ha : Stands a x) (hb : Stands b y) : double.order a b = some (compare x y) := by
  obtain ⟨s, m, p, hra, k, hk, e⟩ := ha
  obtain ⟨t, n, q, hrb, j, hj, e2⟩ := hb
  obtain ⟨hk', e'⟩ := Is.more hk e j
  obtain ⟨hj', e2'⟩ := Is.more hj e2 k
  have h1 : signed s m (p - min p q).toNat * 2 ^ (min p q + (k + j : Nat)).toNat = x * 2 ^ (k + j) := by
    rw [signed_sg, Int.mul_assoc, ← Int.pow_add, show (p - min p q).toNat + (min p q + (k + j : Nat)).toNat = (p + (k + j : Nat)).toNat by omega, e']
  have h2 : signed t n (q - min p q).toNat * 2 ^ (min p q + (k + j : Nat)).toNat = y * 2 ^ (k + j) := by
    rw [signed_sg, Int.mul_assoc, ← Int.pow_add, show (q - min p q).toNat + (min p q + (k + j : Nat)).toNat = (q + (j + k : Nat)).toNat by omega, e2', Nat.add_comm j k]
  unfold Format.order
  rw [hra, hrb]
  simp only [Datum.order]
  congr 1
  have hl : ∀ u v : Int, compare u v = if u < v then .lt else if u = v then .eq else .gt := fun u v => by
    simp only [compare, compareOfLessAndEq]
  rw [hl, hl]
  have c1 : signed s m (p - min p q).toNat < signed t n (q - min p q).toNat ↔ x < y := by rw [← mul_pow_lt (k := (min p q + (k + j : Nat)).toNat), h1, h2, mul_pow_lt]
  have c2 : signed t n (q - min p q).toNat < signed s m (p - min p q).toNat ↔ y < x := by rw [← mul_pow_lt (k := (min p q + (k + j : Nat)).toNat), h1, h2, mul_pow_lt]
  have c3 : signed s m (p - min p q).toNat = signed t n (q - min p q).toNat ↔ x = y := by
    constructor <;> intro h <;> omega
  by_cases g1 : x < y
  · rw [if_pos g1, if_pos (c1.2 g1)]
  · rw [if_neg g1, if_neg (fun h => g1 (c1.1 h))]
    by_cases g2 : x = y
    · rw [if_pos g2, if_pos (c3.2 g2)]
    · rw [if_neg g2, if_neg (fun h => g2 (c3.1 h))]
end Go.Proofs.Ytdbenpncnkfliaa

/-
  Layer 10: points, slices of points; 'Good', walked.
-/
namespace Go.Proofs.Ytdbenpncnkfliaa
open Go.RowKit
set_option linter.unusedVariables false

def Pt (x y : Int) : Value := .agg #[.int .i64 x, .int .i64 y]
/-- A slice's n points, in a block below B (nil and empty let in). -/
def RdP (w : World) (B : Nat) (A : Option Addr) (n : Nat) (X Y : Nat → Int) : Prop :=
  0 < n → ∃ b o, A = some ⟨b, o, none⟩ ∧ b < B ∧ ∀ j, j < n → w.cell? ⟨b, o + j * 2, none⟩ = some (.int .i64 (X j)) ∧ w.cell? ⟨b, o + j * 2 + 1, none⟩ = some (.int .i64 (Y j))
section
variable {w w' : World} {B B' n : Nat} {A : Option Addr} {X Y : Nat → Int}
theorem RdP.zero : RdP w B A 0 X Y := fun h => absurd h (by omega)
theorem RdP.keep (h : RdP w B A n X Y) (hk : ∀ b o, b < B → w'.cell? ⟨b, o, none⟩ = w.cell? ⟨b, o, none⟩) : RdP w' B A n X Y := fun hn => by
  obtain ⟨b, o, rfl, hb, hc⟩ := h hn
  exact ⟨b, o, rfl, hb, fun j hj => ⟨(hk _ _ hb).trans (hc j hj).1, (hk _ _ hb).trans (hc j hj).2⟩⟩
theorem RdP.more (h : RdP w B A n X Y) (hB : B ≤ B') : RdP w B' A n X Y := fun hn => by
  obtain ⟨b, o, rfl, hb, hc⟩ := h hn
  exact ⟨b, o, rfl, by omega, hc⟩
theorem RdP.on (h : RdP w w.heap.size A n X Y) (k : Since w w') : RdP w' w'.heap.size A n X Y := (h.keep fun b o hb => k.1 b o hb).more k.below.size
end
def goodB (x y : Int) : Bool := decide (-4194304 ≤ x ∧ x ≤ 4194304 ∧ -4194304 ≤ y ∧ y ≤ 4194304)
theorem goodB_iff {x y : Int} : goodB x y = true ↔ (-4194304 ≤ x ∧ x ≤ 4194304 ∧ -4194304 ≤ y ∧ y ≤ 4194304) := by unfold goodB; simp
def allG (X Y : Nat → Int) : Nat → Bool
  | 0 => true
  | n + 1 => allG X Y n && goodB (X n) (Y n)
theorem allG_iff {X Y : Nat → Int} {n : Nat} : allG X Y n = true ↔ ∀ j, j < n → goodB (X j) (Y j) = true := by
  induction n with
  | zero => simp [allG]
  | succ n ih =>
    simp only [allG, Bool.and_eq_true, ih]
    constructor
    · rintro ⟨h1, h2⟩ j hj
      by_cases e : j = n
      · subst e; exact h2
      · exact h1 j (by omega)
    · exact fun h => ⟨fun j hj => h j (by omega), h n (by omega)⟩
theorem allG_no {X Y : Nat → Int} {n j : Nat} (hj : j < n) (h : goodB (X j) (Y j) = false) : allG X Y n = false := by
  cases hh : allG X Y n with
  | false => rfl
  | true => rw [allG_iff.1 hh j hj] at h; cases h

set_option maxHeartbeats 4000000 in
theorem ga_good (A : Option Addr) (n c : Nat) (X Y : Nat → Int) (w : World) (h : RdP w w.heap.size A n X Y) (hX : ∀ j, j < n → In64 (X j) ∧ In64 (Y j)) (hn : n ≤ maxLen) :
    Calls Try.prog 57 #[.slice A n c] w fun e w' => e = .returned (.bool (allG X Y n)) ∧ Since w w' := by
  have hn' : (n : Int) ≤ 9223372036854775807 := by simp only [maxLen] at hn; omega
  go_enter Try.func57, Try.ntmps57
  go_wp2
  go_loopw [7] (fun y wr => ∃ j : Nat, j ≤ n ∧ y = .int .i64 (j : Int) ∧ Hid (allG X Y j = true) ∧ Since w wr) (fun y _ => n - (intOf y).toNat)
  case atStart => exact ⟨0, by omega, rfl, Lib.hid rfl, Since.refl _⟩
  case round =>
    obtain ⟨j, hj, rfl, HG, hSr⟩ := hrel
    by_cases hjn : j < n
    · have hjn' : (j : Int) < n := by omega
      obtain ⟨b, o, rfl, hb, hc⟩ := h (by omega)
      have c1 : wr.cell? ⟨b, o + j * 2, none⟩ = some (.int .i64 (X j)) := (hSr.1 _ _ hb).trans (hc j hjn).1
      have c2 : wr.cell? ⟨b, o + j * 2 + 1, none⟩ = some (.int .i64 (Y j)) := (hSr.1 _ _ hb).trans (hc j hjn).2
      have hx := hX j hjn
      have hblt : b < wr.heap.size := by have := hSr.below.size; omega
      clear hc h hX
      go_wp2
      all_goals first
        | (go_ret
           refine ⟨?_, by (repeat (first | with_reducible (exact Since.refl _) | with_reducible assumption | with_reducible (refine Since.drew ?_) | with_reducible (refine Since.drewN ?_ _) | with_reducible (refine Since.alloc ?_ _) | (with_reducible (refine Since.setCell ?_ ?_ _); rotate_left; focus (first | (simp; done) | (simp; omega) | omega)) | (with_reducible (refine Since.trans ?_ (by with_reducible assumption)))))⟩
           rw [allG_no (n := n) hjn (by unfold goodB; rw [decide_eq_false_iff_not]; intro hh; simp_all; try omega)]
           rfl)
        | (refine ⟨⟨j + 1, by omega, by simp, Lib.hid (by
             have hg : goodB (X j) (Y j) = true := goodB_iff.2 (by simp_all; try omega)
             simp only [allG, HG.out, hg, Bool.and_self]), by (repeat (first | with_reducible (exact Since.refl _) | with_reducible assumption | with_reducible (refine Since.drew ?_) | with_reducible (refine Since.drewN ?_ _) | with_reducible (refine Since.alloc ?_ _) | (with_reducible (refine Since.setCell ?_ ?_ _); rotate_left; focus (first | (simp; done) | (simp; omega) | omega)) | (with_reducible (refine Since.trans ?_ (by with_reducible assumption)))))⟩, by simp [intOf]; omega⟩)
        | trace_state
    · obtain rfl : j = n := by omega
      clear h hX
      go_wp2
      go_ret
      exact ⟨by rw [HG.out]; rfl, hSr⟩
end Go.Proofs.Ytdbenpncnkfliaa

/-
  Layer 10: points as complex numbers, their products, walked.
-/
namespace Go.Proofs.Ytdbenpncnkfliaa
open Go.RowKit
set_option linter.unusedVariables false

def fl (n : Int) : Nat := floatOfInt .f64 n
theorem fl_stands {n : Int} (h : n.natAbs ≤ 9007199254740991) : Stands (fl n) n := stands_int n (by omega)

/-- The conjugate of a + bi times c + di. -/
def inB (a b c d : Nat) : Nat × Nat := (cMulBits a (b ^^^ 9223372036854775808) c d).getD (0, 0)
def muB (a b c d : Nat) : Nat × Nat := (cMulBits a b c d).getD (0, 0)
/-- No farther from 0 than products of differences need. -/
def Near (n : Int) : Prop := -16777216 ≤ n ∧ n ≤ 16777216
theorem near_mul {p q : Int} (hp : Near p) (hq : Near q) : -281474976710656 ≤ p * q ∧ p * q ≤ 281474976710656 := by
  have h : (p * q).natAbs ≤ 281474976710656 := by
    rw [Int.natAbs_mul]
    unfold Near at hp hq
    exact Nat.le_trans (Nat.mul_le_mul (show p.natAbs ≤ 16777216 by omega) (show q.natAbs ≤ 16777216 by omega)) (by decide)
  omega
theorem mul_stands {a b c d : Nat} {p q r s : Int} (ha : Stands a p) (hb : Stands b q) (hc : Stands c r) (hd : Stands d s) (h1 : Near p) (h2 : Near q) (h3 : Near r) (h4 : Near s) :
    ∃ re im, cMulBits a b c d = some (re, im) ∧ Stands re (p * r - q * s) ∧ Stands im (p * s + q * r) := by
  have b1 := near_mul h1 h3; have b2 := near_mul h2 h4; have b3 := near_mul h1 h4; have b4 := near_mul h2 h3
  obtain ⟨x1, e1, s1⟩ := stands_mul ha hc (by omega)
  obtain ⟨x2, e2, s2⟩ := stands_mul hb hd (by omega)
  obtain ⟨x3, e3, s3⟩ := stands_sub s1 s2 (by omega)
  obtain ⟨x4, e4, s4⟩ := stands_mul ha hd (by omega)
  obtain ⟨x5, e5, s5⟩ := stands_mul hb hc (by omega)
  obtain ⟨x6, e6, s6⟩ := stands_add s4 s5 (by omega)
  exact ⟨x3, x6, by unfold cMulBits; simp only [e1, e2, e3, e4, e5, e6, Option.bind_some], s3, s6⟩
theorem muB_stands {a b c d : Nat} {p q r s : Int} (ha : Stands a p) (hb : Stands b q) (hc : Stands c r) (hd : Stands d s) (h1 : Near p) (h2 : Near q) (h3 : Near r) (h4 : Near s) :
    cMulBits a b c d = some ((muB a b c d).1, (muB a b c d).2) ∧ Stands (muB a b c d).1 (p * r - q * s) ∧ Stands (muB a b c d).2 (p * s + q * r) := by
  obtain ⟨re, im, e, s1, s2⟩ := mul_stands ha hb hc hd h1 h2 h3 h4
  unfold muB
  rw [e]
  exact ⟨rfl, s1, s2⟩
theorem inB_stands {a b c d : Nat} {p q r s : Int} (ha : Stands a p) (hb : Stands b q) (hc : Stands c r) (hd : Stands d s) (h1 : Near p) (h2 : Near q) (h3 : Near r) (h4 : Near s) :
    cMulBits a (b ^^^ 9223372036854775808) c d = some ((inB a b c d).1, (inB a b c d).2) ∧ Stands (inB a b c d).1 (p * r + q * s) ∧ Stands (inB a b c d).2 (p * s - q * r) := by
  obtain ⟨re, im, e, s1, s2⟩ := mul_stands ha (stands_neg hb) hc hd h1 (show Near (-q) by unfold Near at *; omega) h3 h4
  unfold inB
  rw [e]
  have e1 : p * r - -q * s = p * r + q * s := by rw [Int.neg_mul, Int.sub_neg]
  have e2 : p * s + -q * r = p * s - q * r := by rw [Int.neg_mul, Int.sub_eq_add_neg]
  rw [e1] at s1
  rw [e2] at s2
  exact ⟨rfl, s1, s2⟩
theorem neg_run (b : Nat) (w : World) : (Op.unary .neg (.float .f64 b)).run Try.prog w = .ok (.float .f64 (b ^^^ 9223372036854775808)) w := by
  simp [Op.unary, Op.negFloat, FloatKind.format, Ieee.double]
end Go.Proofs.Ytdbenpncnkfliaa

/-
  Layer 10: 'Cross', 'Dot', 'Times', walked.
-/
namespace Go.Proofs.Ytdbenpncnkfliaa
open Go.RowKit
set_option linter.unusedVariables false

def two (a b : Int) (j : Nat) : Int := if j = 0 then a else b
def three (a b c : Int) (j : Nat) : Int := if j = 0 then a else if j = 1 then b else c
theorem rdp_one (w : World) (b : Nat) (hb : b = w.heap.size) (x y : Int) (t : TypeId) : RdP (w.alloc (.cells #[.int .i64 x, .int .i64 y] t)) (w.alloc (.cells #[.int .i64 x, .int .i64 y] t)).heap.size (some ⟨b, 0, none⟩) 1 (fun _ => x) (fun _ => y) := fun _ => by
  subst hb
  refine ⟨w.heap.size, 0, rfl, by simp, fun j hj => ?_⟩
  obtain rfl : j = 0 := by omega
  exact ⟨by rw [World.cell?_alloc_new]; rfl, by rw [World.cell?_alloc_new]; rfl⟩
theorem rdp_two (w : World) (b : Nat) (hb : b = w.heap.size) (x y u v : Int) (t : TypeId) : RdP (w.alloc (.cells #[.int .i64 x, .int .i64 y, .int .i64 u, .int .i64 v] t)) (w.alloc (.cells #[.int .i64 x, .int .i64 y, .int .i64 u, .int .i64 v] t)).heap.size (some ⟨b, 0, none⟩) 2 (two x u) (two y v) := fun _ => by
  subst hb
  refine ⟨w.heap.size, 0, rfl, by simp, fun j hj => ?_⟩
  have h : j = 0 ∨ j = 1 := by omega
  rcases h with rfl | rfl <;> exact ⟨by rw [World.cell?_alloc_new]; rfl, by rw [World.cell?_alloc_new]; rfl⟩
theorem rdp_three (w : World) (b : Nat) (hb : b = w.heap.size) (x y u v p q : Int) (t : TypeId) : RdP (w.alloc (.cells #[.int .i64 x, .int .i64 y, .int .i64 u, .int .i64 v, .int .i64 p, .int .i64 q] t)) (w.alloc (.cells #[.int .i64 x, .int .i64 y, .int .i64 u, .int .i64 v, .int .i64 p, .int .i64 q] t)).heap.size (some ⟨b, 0, none⟩) 3 (three x u p) (three y v q) := fun _ => by
  subst hb
  refine ⟨w.heap.size, 0, rfl, by simp, fun j hj => ?_⟩
  have h : j = 0 ∨ j = 1 ∨ j = 2 := by omega
  rcases h with rfl | rfl | rfl <;> exact ⟨by rw [World.cell?_alloc_new]; rfl, by rw [World.cell?_alloc_new]; rfl⟩
def InP (x y : Int) : Prop := In64 x ∧ In64 y
theorem good1 (w : World) (b : Nat) (hb : b = w.heap.size) (x y : Int) (t : TypeId) (h : InP x y) : Calls Try.prog 57 #[.slice (some ⟨b, 0, none⟩) 1 1] (w.alloc (.cells #[.int .i64 x, .int .i64 y] t)) fun e w' => e = .returned (.bool (goodB x y)) ∧ Since (w.alloc (.cells #[.int .i64 x, .int .i64 y] t)) w' := by
  have h := ga_good _ 1 1 _ _ _ (rdp_one w b hb x y t) (fun j hj => h) (by decide)
  simpa [allG] using h
theorem good2 (w : World) (b : Nat) (hb : b = w.heap.size) (x y u v : Int) (t : TypeId) (h : InP x y) (h' : InP u v) : Calls Try.prog 57 #[.slice (some ⟨b, 0, none⟩) 2 2] (w.alloc (.cells #[.int .i64 x, .int .i64 y, .int .i64 u, .int .i64 v] t)) fun e w' => e = .returned (.bool (goodB x y && goodB u v)) ∧ Since (w.alloc (.cells #[.int .i64 x, .int .i64 y, .int .i64 u, .int .i64 v] t)) w' := by
  have h := ga_good _ 2 2 _ _ _ (rdp_two w b hb x y u v t) (fun j hj => by unfold two; split; exact h; exact h') (by decide)
  simpa [allG, two] using h
theorem good3 (w : World) (b : Nat) (hb : b = w.heap.size) (x y u v p q : Int) (t : TypeId) (h : InP x y) (h' : InP u v) (h'' : InP p q) : Calls Try.prog 57 #[.slice (some ⟨b, 0, none⟩) 3 3] (w.alloc (.cells #[.int .i64 x, .int .i64 y, .int .i64 u, .int .i64 v, .int .i64 p, .int .i64 q] t)) fun e w' => e = .returned (.bool (goodB x y && goodB u v && goodB p q)) ∧ Since (w.alloc (.cells #[.int .i64 x, .int .i64 y, .int .i64 u, .int .i64 v, .int .i64 p, .int .i64 q] t)) w' := by
  have h := ga_good _ 3 3 _ _ _ (rdp_three w b hb x y u v p q t) (fun j hj => by unfold three; split; exact h; split; exact h'; exact h'') (by decide)
  simpa [allG, three] using h
theorem good_near {x y : Int} (h : goodB x y = true) : Near x ∧ Near y ∧ x.natAbs ≤ 9007199254740991 ∧ y.natAbs ≤ 9007199254740991 := by
  have := goodB_iff.1 h
  unfold Near
  omega

/-- A block holds a point. -/
def PtAt (w : World) (b : Nat) (x y : Int) : Prop := w.cell? ⟨b, 0, none⟩ = some (.int .i64 x) ∧ w.cell? ⟨b, 1, none⟩ = some (.int .i64 y) ∧ b < w.heap.size
theorem PtAt.since {w w' : World} {b : Nat} {x y : Int} (h : PtAt w b x y) (k : Since w w') : PtAt w' b x y := ⟨(k.1 _ _ h.2.2).trans h.1, (k.1 _ _ h.2.2).trans h.2.1, k.2.2.1 _ h.2.2⟩
theorem PtAt.alloc {w : World} {b : Nat} {x y : Int} (h : PtAt w b x y) (o : Obj) : PtAt (w.alloc o) b x y := h.since ((Since.refl w).alloc o)
theorem pt_new (w : World) (b : Nat) (hb : b = w.heap.size) (x y : Int) (t : TypeId) : PtAt (w.alloc (.cells #[.int .i64 x, .int .i64 y] t)) b x y := by
  subst hb
  exact ⟨by rw [World.cell?_alloc_new]; rfl, by rw [World.cell?_alloc_new]; rfl, by simp⟩
/-- A block holds nought, and may be written. -/
def Zero2 (w : World) (b : Nat) : Prop := PtAt w b 0 0 ∧ ∀ j, w.frozen? ⟨b, j, none⟩ = false
theorem zero2_new (w : World) (b : Nat) (hb : b = w.heap.size) (t : TypeId) : Zero2 (w.alloc (.cells #[.int .i64 0, .int .i64 0] t)) b := by
  refine ⟨pt_new w b hb 0 0 t, fun j => ?_⟩
  subst hb
  rw [frozen?_alloc_cells]
  simp [World.frozen?]
theorem Zero2.since {w w' : World} {b : Nat} (h : Zero2 w b) (k : Since w w') : Zero2 w' b := ⟨h.1.since k, fun j => (k.2.1 _ _ h.1.2.2).trans (h.2 j)⟩
theorem Zero2.alloc {w : World} {b : Nat} (h : Zero2 w b) (o : Obj) : Zero2 (w.alloc o) b := h.since ((Since.refl w).alloc o)
def crossI (x y u v : Int) : Int := x * v - y * u
def dotI (x y u v : Int) : Int := x * u + y * v
def okE (b : Bool) : Int := if b then 0 else 6
def timesX (x y u v : Int) : Int := x * u - y * v
def timesY (x y u v : Int) : Int := x * v + y * u
end Go.Proofs.Ytdbenpncnkfliaa

/-
  Layer 10: 'Turn', 'Quarter', walked.
-/
namespace Go.Proofs.Ytdbenpncnkfliaa
open Go.RowKit
set_option linter.unusedVariables false

theorem stands_zero : Stands 0 0 := ⟨false, 0, -1074, by decide, is_zero false _⟩
theorem stands_one : Stands 4607182418800017408 1 := by
  have h := stands_int 1 (by decide)
  rw [show floatOfInt .f64 1 = 4607182418800017408 by decide +kernel] at h
  exact h
theorem order_self {b : Nat} {n : Int} (h : Stands b n) : FloatKind.f64.format.order b b = some .eq := by
  have := stands_order h h
  rw [show compare n n = .eq by simp [compare, compareOfLessAndEq]] at this
  exact this
def sgnI (n : Int) : Int := if n < 0 then -1 else if n = 0 then 0 else 1

/-- The difference of two points as complex numbers. -/
def suB (a b c d : Nat) : Nat × Nat := (cSumBits .sub .f64 a b c d).getD (0, 0)
theorem suB_stands {a b c d : Nat} {p q r s : Int} (ha : Stands a p) (hb : Stands b q) (hc : Stands c r) (hd : Stands d s) (h1 : (p - r).natAbs < 2 ^ 53) (h2 : (q - s).natAbs < 2 ^ 53) :
    cSumBits .sub .f64 a b c d = some ((suB a b c d).1, (suB a b c d).2) ∧ Stands (suB a b c d).1 (p - r) ∧ Stands (suB a b c d).2 (q - s) := by
  obtain ⟨x1, e1, s1⟩ := stands_sub ha hc h1
  obtain ⟨x2, e2, s2⟩ := stands_sub hb hd h2
  have e : cSumBits .sub .f64 a b c d = some (x1, x2) := by unfold cSumBits; simp only [e1, e2, Option.bind_some]
  unfold suB
  rw [e]
  exact ⟨rfl, s1, s2⟩
def turnI (x y u v p q : Int) : Int := sgnI (crossI (u - x) (v - y) (p - x) (q - y))

end Go.Proofs.Ytdbenpncnkfliaa

/-
  Layer 10: 'Quarter', walked; the reference's small functions, walked.
-/
namespace Go.Proofs.Ytdbenpncnkfliaa
open Go.RowKit
set_option linter.unusedVariables false

/-- A point turned by quarters. -/
def qu (x y : Int) : Nat → Int × Int
  | 0 => (x, y)
  | k + 1 => (-(qu x y k).2, (qu x y k).1)
theorem qu_near {x y : Int} {B : Int} (hx : -B ≤ x ∧ x ≤ B) (hy : -B ≤ y ∧ y ≤ B) : ∀ k, (-B ≤ (qu x y k).1 ∧ (qu x y k).1 ≤ B) ∧ (-B ≤ (qu x y k).2 ∧ (qu x y k).2 ≤ B)
  | 0 => ⟨hx, hy⟩
  | k + 1 => by
    have h := qu_near hx hy k
    simp only [qu]
    omega
theorem and_three (n : Int) : bits .and .i64 n 3 = ((n % 4).toNat : Int) := by
  show IntKind.i64.wrap ((BitVec.ofInt 64 n &&& BitVec.ofInt 64 3).toNat : Int) = _
  rw [BitVec.toNat_and, show (BitVec.ofInt 64 3).toNat = 2 ^ 2 - 1 from rfl, Nat.and_two_pow_sub_one_eq_mod, BitVec.toNat_ofInt, IntKind.wrap_i64]
  omega
def resQ (x y : Int) (n : Int) : Int × Int := qu x y (n % 4).toNat

end Go.Proofs.Ytdbenpncnkfliaa

/-
  Layer 10: the reference's functions, walked.
-/
namespace Go.Proofs.Ytdbenpncnkfliaa
open Go.RowKit
set_option linter.unusedVariables false

theorem eq_pt (w : World) (x y u v : Int) : (Op.equalIn 10000 33 (.agg #[.int .i64 x, .int .i64 y]) (.agg #[.int .i64 u, .int .i64 v])).run Try.prog w = .ok (x == u && y == v) w := by
  rw [run_equalIn_struct w 9999 33 _ _ (by kernel_rfl) (by kernel_rfl)]
  have heq : ∀ (d : Nat) (a b : Int) (w : World), (Op.equalIn (d + 1) 3 (.int .i64 a) (.int .i64 b)).run Try.prog w = .ok (a == b) w := fun d a b w => run_equalIn_int w d _ _ _ a b Try.underlying3
  have hc : Try.prog.cellsOf 3 = 1 := by kernel_rfl
  simp only [Program.fieldsOf, Try.underlying33]
  by_cases h0 : x = u
  · by_cases h1 : y = v
    · simp [go_sem, h0, h1]
    · simp [go_sem, h0, h1]
  · simp [go_sem, h0]
attribute [go_sem] eq_pt

set_option maxHeartbeats 4000000 in
theorem rf_good (x y : Int) (w : World) :
    Calls Try.prog 55 #[Pt x y] w fun e w' => e = .returned (.bool (goodB x y)) ∧ Since w w' := by
  unfold Pt
  by_cases hy : y ≤ 4194304
  all_goals
    go_enter Try.func55, Try.ntmps55
    go_wp2
    all_goals
      go_ret
      refine ⟨?_, by (repeat (first | with_reducible (exact Since.refl _) | with_reducible assumption | with_reducible (refine Since.drew ?_) | with_reducible (refine Since.drewN ?_ _) | with_reducible (refine Since.alloc ?_ _) | (with_reducible (refine Since.setCell ?_ ?_ _); rotate_left; focus (first | (simp; done) | (simp; omega) | omega)) | (with_reducible (refine Since.trans ?_ (by with_reducible assumption)))))⟩
      first
        | (rw [show goodB x y = true from goodB_iff.2 (by simp_all)]; simp_all; done)
        | (rw [show goodB x y = false by (unfold goodB; rw [decide_eq_false_iff_not]; simp_all; try omega)]; simp_all; done)
        | trace_state
end Go.Proofs.Ytdbenpncnkfliaa

/-
  Layer 10: the reference's 'Turn', 'Quarter', 'All', 'Same', walked.
-/
namespace Go.Proofs.Ytdbenpncnkfliaa
open Go.RowKit
set_option linter.unusedVariables false

def Tiny (x : Int) : Prop := -4194304 ≤ x ∧ x ≤ 4194304
theorem Tiny.near {x : Int} (h : Tiny x) : Near x := by unfold Tiny at h; unfold Near; omega
theorem Tiny.sub {x y : Int} (h : Tiny x) (k : Tiny y) : Near (x - y) := by unfold Tiny at *; unfold Near; omega
theorem tiny_of {x y : Int} (h : goodB x y = true) : Tiny x ∧ Tiny y := by have := goodB_iff.1 h; unfold Tiny; omega
theorem cross_in64 {x y u v : Int} (h1 : Near x) (h2 : Near y) (h3 : Near u) (h4 : Near v) : In64 (crossI x y u v) := by
  have b1 := near_mul h1 h4; have b2 := near_mul h2 h3
  unfold crossI In64
  omega

/-- A block holds a point, and may be written. -/
def PtW (w : World) (b : Nat) (x y : Int) : Prop := PtAt w b x y ∧ ∀ j, w.frozen? ⟨b, j, none⟩ = false
theorem ptw_new (w : World) (b : Nat) (hb : b = w.heap.size) (x y : Int) (t : TypeId) : PtW (w.alloc (.cells #[.int .i64 x, .int .i64 y] t)) b x y := by
  refine ⟨pt_new w b hb x y t, fun j => ?_⟩
  subst hb
  rw [frozen?_alloc_cells]
  simp [World.frozen?]
theorem PtW.since {w w' : World} {b : Nat} {x y : Int} (h : PtW w b x y) (k : Since w w') : PtW w' b x y := ⟨h.1.since k, fun j => (k.2.1 _ _ h.1.2.2).trans (h.2 j)⟩
theorem PtW.alloc {w : World} {b : Nat} {x y : Int} (h : PtW w b x y) (o : Obj) : PtW (w.alloc o) b x y := h.since ((Since.refl w).alloc o)
theorem PtW.put {w : World} {b : Nat} {x y : Int} (h : PtW w b x y) (u v : Int) : PtW ((w.setCell ⟨b, 0, none⟩ (.int .i64 u)).setCell ⟨b, 1, none⟩ (.int .i64 v)) b u v := by
  obtain ⟨⟨h1, h2, h3⟩, h4⟩ := h
  refine ⟨⟨?_, ?_, by simpa [World.setCell] using h3⟩, fun j => by rw [World.frozen?_setCell, World.frozen?_setCell]; exact h4 j⟩
  · rw [cell_set, if_neg (by omega), cell_set, if_pos ⟨rfl, rfl⟩, h1]; rfl
  · rw [cell_set, if_pos ⟨rfl, rfl⟩, cell_set, if_neg (by omega), h2]; rfl
theorem PtW.far {w : World} {b b' : Nat} {x y : Int} (h : PtW w b x y) (hb : b' ≠ b) (o : Nat) (v : Value) : PtW (w.setCell ⟨b', o, none⟩ v) b x y := by
  obtain ⟨⟨h1, h2, h3⟩, h4⟩ := h
  exact ⟨⟨by rw [cell_set, if_neg (fun e => hb e.1)]; exact h1, by rw [cell_set, if_neg (fun e => hb e.1)]; exact h2, by simpa [World.setCell] using h3⟩, fun j => by rw [World.frozen?_setCell]; exact h4 j⟩
theorem go_mod4 (n : Int) : (n.tmod 4 + 4).tmod 4 = n % 4 := by
  rcases Int.lt_or_le n 0 with h | h
  · have h1 : n.tmod 4 = -((-n) % 4) := by
      rw [← Int.tmod_eq_emod_of_nonneg (by omega : 0 ≤ -n), Int.neg_tmod]; omega
    rw [h1, Int.tmod_eq_emod_of_nonneg (by omega)]
    omega
  · rw [Int.tmod_eq_emod_of_nonneg h, Int.tmod_eq_emod_of_nonneg (by omega)]
    omega
end Go.Proofs.Ytdbenpncnkfliaa

/-
  Layer 10: 'Area', program and reference, and the reference's 'Same', walked.
-/
namespace Go.Proofs.Ytdbenpncnkfliaa
open Go.RowKit
set_option linter.unusedVariables false

/-- Twice the area that the first k sides of a closed way of n points make. -/
def areaTo (X Y : Nat → Int) (n : Nat) : Nat → Int
  | 0 => 0
  | k + 1 => areaTo X Y n k + crossI (X k) (Y k) (X ((k + 1) % n)) (Y ((k + 1) % n))
theorem cross_range {x y u v : Int} (h1 : Near x) (h2 : Near y) (h3 : Near u) (h4 : Near v) : -562949953421312 ≤ crossI x y u v ∧ crossI x y u v ≤ 562949953421312 := by
  have b1 := near_mul h1 h4; have b2 := near_mul h2 h3
  unfold crossI
  omega
theorem areaTo_range {X Y : Nat → Int} {n : Nat} (h : ∀ j, j < n → Near (X j) ∧ Near (Y j)) : ∀ k, k ≤ n → -(k * 562949953421312) ≤ areaTo X Y n k ∧ areaTo X Y n k ≤ k * 562949953421312
  | 0, _ => by simp [areaTo]
  | k + 1, hk => by
    have h0 := areaTo_range h k (by omega)
    have hm : (k + 1) % n < n := Nat.mod_lt _ (by omega)
    have hc := cross_range (h k (by omega)).1 (h k (by omega)).2 (h _ hm).1 (h _ hm).2
    simp only [areaTo]
    omega

set_option maxHeartbeats 8000000 in
theorem rf_same (A B : Option Addr) (n c d : Nat) (X Y : Nat → Int) (w : World) (h1 : RdP w w.heap.size A n X Y) (h2 : RdP w w.heap.size B n X Y) (hn : n ≤ maxLen) :
    Calls Try.prog 33 #[.slice A n c, .slice B n d] w fun e w' => e = .returned (.bool true) ∧ Since w w' := by
  have hn' : (n : Int) ≤ 9223372036854775807 := by simp only [maxLen] at hn; omega
  go_enter Try.func33, Try.ntmps33
  go_wp2
  go_loopw [13] (fun y wr => ∃ j : Nat, j ≤ n ∧ y = .int .i64 (j : Int) ∧ Since w wr) (fun y _ => n - (intOf y).toNat)
  case atStart => exact ⟨0, by omega, rfl, Since.refl _⟩
  case round =>
    obtain ⟨j, hj, rfl, hSr⟩ := hrel
    by_cases hjn : j < n
    · have hjn' : (j : Int) < n := by omega
      obtain ⟨b, o, rfl, hb, hc⟩ := h1 (by omega)
      obtain ⟨b', o', rfl, hb', hc'⟩ := h2 (by omega)
      have c1 : wr.cell? ⟨b, o + j * 2, none⟩ = some (.int .i64 (X j)) := (hSr.1 _ _ hb).trans (hc j hjn).1
      have c2 : wr.cell? ⟨b, o + j * 2 + 1, none⟩ = some (.int .i64 (Y j)) := (hSr.1 _ _ hb).trans (hc j hjn).2
      have e1 : wr.cell? ⟨b', o' + j * 2, none⟩ = some (.int .i64 (X j)) := (hSr.1 _ _ hb').trans (hc' j hjn).1
      have e2 : wr.cell? ⟨b', o' + j * 2 + 1, none⟩ = some (.int .i64 (Y j)) := (hSr.1 _ _ hb').trans (hc' j hjn).2
      have hj0 : (0 : Int) ≤ j := by omega
      generalize X j = x at *
      generalize Y j = y at *
      clear hc hc' h1 h2
      go_wp2_with fail
      go_quiet (fail)
      go_wp2
      refine ⟨⟨j + 1, by omega, by simp, by (repeat (first | with_reducible (exact Since.refl _) | with_reducible assumption | with_reducible (refine Since.drew ?_) | with_reducible (refine Since.drewN ?_ _) | with_reducible (refine Since.alloc ?_ _) | (with_reducible (refine Since.setCell ?_ ?_ _); rotate_left; focus (first | (simp; done) | (simp; omega) | omega)) | (with_reducible (refine Since.trans ?_ (by with_reducible assumption)))))⟩, by simp [intOf]; omega⟩
    · obtain rfl : j = n := by omega
      clear h1 h2
      go_wp2
      go_ret
      exact ⟨rfl, hSr⟩
end Go.Proofs.Ytdbenpncnkfliaa

/-
  Layer 10: the document's examples.
-/
namespace Go.Proofs.Ytdbenpncnkfliaa
open Go.RowKit
set_option linter.unusedVariables false

theorem inP_small {x y : Int} (h : -1000000000 ≤ x ∧ x ≤ 1000000000) (k : -1000000000 ≤ y ∧ y ≤ 1000000000) : InP x y := by unfold InP In64; omega
end Go.Proofs.Ytdbenpncnkfliaa
