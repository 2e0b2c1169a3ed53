/-
  Texts of this seat, put together: each with its own head.
-/
import Derived.Test.YtcjjcjpkmjbfkaaRows
import Derived.WalkKit
import Derived.ProofKit
import Derived.OpenShut
import Derived.Laws.ResultCell
import Derived.Deep.RegionHeld3
import Derived.Lib.Hide
import Derived.Deep.Draws
import Derived.Laws.OwnMore
import Derived.Laws.BytesArg
import Derived.Maps.AppendAt
import Derived.Deep.AppendLies
import Derived.Laws.CopyOwn
import Derived.OwnWalk
import Derived.Deep.QuietTactic
import Derived.BigQuiet
import Derived.Carry
import Derived.SizedLaws

/-
  Words of this proof's own for what a call leaves of the world: 'Since w w2': all that was there reads as it did, and nothing has gone.
-/
namespace Go.Proofs.Ytcjjcjpkmjbfkaa
open Go.RowKit Go.ChangeShapes Go.WideShapes

def Since (w w' : World) : Prop := (∀ b o, b < w.heap.size → w'.cell? ⟨b, o, none⟩ = w.cell? ⟨b, o, none⟩) ∧ (∀ b o, b < w.heap.size → w'.frozen? ⟨b, o, none⟩ = w.frozen? ⟨b, o, none⟩) ∧ (∀ k, k < w.heap.size → k < w'.heap.size) ∧ Below w.heap.size w w'

theorem since_of {w w' : World} (h : Below w.heap.size w w') : Since w w' :=
  ⟨fun b o hb => h.cell (p := ⟨b, o, none⟩) hb, fun b o hb => h.frozen (p := ⟨b, o, none⟩) hb, fun _ hk => Nat.lt_of_lt_of_le hk h.size, h⟩
theorem Since.below {w w' : World} (h : Since w w') : Below w.heap.size w w' := h.2.2.2
theorem Since.refl (w : World) : Since w w := since_of (Below.refl _ _)
theorem Since.trans {a b c : World} (h : Since a b) (k : Since b c) : Since a c := since_of (h.below.trans (k.below.mono h.below.size))
theorem Since.drew {a w : World} (h : Since a w) : Since a w.drew := since_of h.below.drew
theorem Since.alloc {a w : World} (h : Since a w) (o : Obj) : Since a (w.alloc o) := since_of (h.below.alloc h.below.size o)
theorem Since.setCell {a w : World} (h : Since a w) {p : Addr} (hp : a.heap.size ≤ p.block) (u : Value) : Since a (w.setCell p u) := since_of (h.below.setCell hp u)
theorem Since.drewN {a w : World} (h : Since a w) (n : Nat) : Since a (w.drewN n) := since_of ⟨h.below.os, h.below.tape, h.below.output, h.below.size, h.below.block⟩
/-- What a step kept, in the four parts that the walk uses as rules. -/
theorem since_step {w0 w1 w2 : World} (h : (∀ b o, b < w0.heap.size → w1.cell? ⟨b, o, none⟩ = w0.cell? ⟨b, o, none⟩) ∧ (∀ b o, b < w0.heap.size → w1.frozen? ⟨b, o, none⟩ = w0.frozen? ⟨b, o, none⟩) ∧ (∀ k, k < w0.heap.size → k < w1.heap.size) ∧ Below w0.heap.size w0 w1) (k : Since w1 w2) :
    (∀ b o, b < w0.heap.size → w2.cell? ⟨b, o, none⟩ = w0.cell? ⟨b, o, none⟩) ∧ (∀ b o, b < w0.heap.size → w2.frozen? ⟨b, o, none⟩ = w0.frozen? ⟨b, o, none⟩) ∧ (∀ k, k < w0.heap.size → k < w2.heap.size) ∧ Below w0.heap.size w0 w2 := Since.trans h k
theorem since_put {w0 w1 : World} (h : (∀ b o, b < w0.heap.size → w1.cell? ⟨b, o, none⟩ = w0.cell? ⟨b, o, none⟩) ∧ (∀ b o, b < w0.heap.size → w1.frozen? ⟨b, o, none⟩ = w0.frozen? ⟨b, o, none⟩) ∧ (∀ k, k < w0.heap.size → k < w1.heap.size) ∧ Below w0.heap.size w0 w1) {p : Addr} (hp : w0.heap.size ≤ p.block) (v : Value) :
    (∀ b o, b < w0.heap.size → (w1.setCell p v).cell? ⟨b, o, none⟩ = w0.cell? ⟨b, o, none⟩) ∧ (∀ b o, b < w0.heap.size → (w1.setCell p v).frozen? ⟨b, o, none⟩ = w0.frozen? ⟨b, o, none⟩) ∧ (∀ k, k < w0.heap.size → k < (w1.setCell p v).heap.size) ∧ Below w0.heap.size w0 (w1.setCell p v) := since_of (h.2.2.2.setCell hp v)
/-- The world under a name, and what the name stands for. -/
theorem wp_named {P : Program} {c : Code} {Q : Exit → Act → World → Prop} {a : Act} {w : World} (h : ∀ w0, w0 = w → c.wp P Q a w0) : c.wp P Q a w := h w rfl

/-- A cell behind a store, whatever the store: by the two addresses' numbers. -/
theorem cell_set (w : World) (b o b' o' : Nat) (v : Value) : (w.setCell ⟨b, o, none⟩ v).cell? ⟨b', o', none⟩ = if b = b' ∧ o = o' then (w.cell? ⟨b', o', none⟩).map (fun _ => v) else w.cell? ⟨b', o', none⟩ := by
  split
  · rename_i h
    obtain ⟨rfl, rfl⟩ := h
    cases hc : w.cell? ⟨b, o, none⟩ with
    | some u => rw [Option.map_some]; exact World.cell?_setCell_same _ _ _ hc
    | none =>
      rw [Option.map_none]
      unfold World.cell? at hc ⊢
      simp only [World.setCell, Array.getElem?_modify, ↓reduceIte, Option.isSome_none, Bool.false_eq_true] at hc ⊢
      cases hh : w.heap[b]? with
      | none => simp
      | some x =>
        rw [hh] at hc
        cases x <;> simp_all
  · rename_i h
    exact World.cell?_setCell_other w ⟨b, o, none⟩ ⟨b', o', none⟩ v (fun e => h (by injection e; exact ⟨‹_›, ‹_›⟩))

attribute [go_sem] cell_set
theorem map_there {o : Option Value} {v : Value} (h : o.isSome = true) : o.map (fun _ => v) = some v := by cases o <;> simp_all
attribute [go_sem] map_there
theorem there_of {o : Option Value} {v : Value} (h : o = some v) : o.isSome = true := by rw [h]; rfl
theorem there_set (w : World) (b o b' o' : Nat) (v : Value) : ((w.setCell ⟨b, o, none⟩ v).cell? ⟨b', o', none⟩).isSome = (w.cell? ⟨b', o', none⟩).isSome := by
  rw [cell_set]
  split
  · rw [Option.isSome_map]
  · rfl
/-- What a cell that is there holds, under a name. -/
def cellD (w : World) (r o : Nat) : Value := (w.cell? ⟨r, o, none⟩).getD undef
theorem cellD_of {w : World} {r o : Nat} (h : (w.cell? ⟨r, o, none⟩).isSome = true) : w.cell? ⟨r, o, none⟩ = some (cellD w r o) := by
  unfold cellD; cases hc : w.cell? ⟨r, o, none⟩ with
  | none => rw [hc] at h; cases h
  | some u => rfl
theorem sr_start {r m : Nat} {w0 : World} (h : ∀ o, o < m → (w0.cell? ⟨r, o, none⟩).isSome = true) : (∀ b o, b < r → w0.cell? ⟨b, o, none⟩ = w0.cell? ⟨b, o, none⟩) ∧ (∀ b o, b < w0.heap.size → w0.frozen? ⟨b, o, none⟩ = w0.frozen? ⟨b, o, none⟩) ∧ (∀ k, k < w0.heap.size → k < w0.heap.size) ∧ Below r w0 w0 ∧ (∀ o, o < m → w0.cell? ⟨r, o, none⟩ = some (cellD w0 r o)) :=
  ⟨fun _ _ _ => rfl, fun _ _ _ => rfl, fun _ h => h, Below.refl _ _, fun o ho => cellD_of (h o ho)⟩
theorem sr_step {r m : Nat} {w0 w1 w2 : World} (hr : r < w0.heap.size) (h : (∀ b o, b < r → w1.cell? ⟨b, o, none⟩ = w0.cell? ⟨b, o, none⟩) ∧ (∀ b o, b < w0.heap.size → w1.frozen? ⟨b, o, none⟩ = w0.frozen? ⟨b, o, none⟩) ∧ (∀ k, k < w0.heap.size → k < w1.heap.size) ∧ Below r w0 w1 ∧ (∀ o, o < m → w1.cell? ⟨r, o, none⟩ = some (cellD w1 r o))) (k : Since w1 w2) :
    (∀ b o, b < r → w2.cell? ⟨b, o, none⟩ = w0.cell? ⟨b, o, none⟩) ∧ (∀ b o, b < w0.heap.size → w2.frozen? ⟨b, o, none⟩ = w0.frozen? ⟨b, o, none⟩) ∧ (∀ k, k < w0.heap.size → k < w2.heap.size) ∧ Below r w0 w2 ∧ (∀ o, o < m → w2.cell? ⟨r, o, none⟩ = some (cellD w2 r o)) := by
  obtain ⟨h1, h2, h3, h4, h5⟩ := h
  exact ⟨fun b o hb => (k.1 b o (h3 b (by omega))).trans (h1 b o hb), fun b o hb => (k.2.1 b o (h3 b hb)).trans (h2 b o hb), fun j hj => k.2.2.1 j (h3 j hj), h4.trans (k.below.mono (Nat.le_of_lt (h3 r hr))), fun o ho => cellD_of (by rw [k.1 r o (h3 r hr), h5 o ho]; rfl)⟩
theorem sr_set {r m : Nat} {w0 w1 : World} (h : (∀ b o, b < r → w1.cell? ⟨b, o, none⟩ = w0.cell? ⟨b, o, none⟩) ∧ (∀ b o, b < w0.heap.size → w1.frozen? ⟨b, o, none⟩ = w0.frozen? ⟨b, o, none⟩) ∧ (∀ k, k < w0.heap.size → k < w1.heap.size) ∧ Below r w0 w1 ∧ (∀ o, o < m → w1.cell? ⟨r, o, none⟩ = some (cellD w1 r o))) (j : Nat) (v : Value) :
    (∀ b o, b < r → (w1.setCell ⟨r, j, none⟩ v).cell? ⟨b, o, none⟩ = w0.cell? ⟨b, o, none⟩) ∧ (∀ b o, b < w0.heap.size → (w1.setCell ⟨r, j, none⟩ v).frozen? ⟨b, o, none⟩ = w0.frozen? ⟨b, o, none⟩) ∧ (∀ k, k < w0.heap.size → k < (w1.setCell ⟨r, j, none⟩ v).heap.size) ∧ Below r w0 (w1.setCell ⟨r, j, none⟩ v) ∧ (∀ o, o < m → (w1.setCell ⟨r, j, none⟩ v).cell? ⟨r, o, none⟩ = some (cellD (w1.setCell ⟨r, j, none⟩ v) r o)) := by
  obtain ⟨h1, h2, h3, h4, h5⟩ := h
  refine ⟨fun b o hb => ?_, fun b o hb => (World.frozen?_setCell _ _ _ _).trans (h2 b o hb), fun k hk => by simpa [World.setCell] using h3 k hk, h4.setCell (Nat.le_refl _) _, fun o ho => ?_⟩
  · rw [cell_set, if_neg (by omega)]; exact h1 b o hb
  · refine cellD_of ?_
    rw [cell_set, h5 o ho]
    split <;> rfl
theorem sr_out {r : Nat} {w w0 w1 : World} (h : Below r w0 w1) (k : Since w w0) (hr : w.heap.size ≤ r) : Since w w1 := since_of (k.below.trans (h.mono hr))

/-- Block b's first n cells hold f, and none is frozen. -/
def Row (w : World) (b n : Nat) (f : Nat → Value) : Prop := (∀ j, j < n → w.cell? ⟨b, j, none⟩ = some (f j)) ∧ (∀ j, w.frozen? ⟨b, j, none⟩ = false) ∧ b < w.heap.size
section
variable {w w' : World} {b n : Nat} {f g : Nat → Value}
theorem Row.of_cells {cs : Array Value} {t : TypeId} (h : ∀ j, j < n → cs[j]? = some (f j)) : Row (w.alloc (.cells cs t)) w.heap.size n f := by
  refine ⟨fun j hj => ?_, fun j => ?_, by simp⟩
  · rw [World.cell?_alloc_new]; exact h j hj
  · rw [frozen?_alloc_cells]; simp [World.frozen?]
theorem Row.congr (h : Row w b n f) (e : ∀ j, j < n → f j = g j) : Row w b n g := ⟨fun j hj => by rw [h.1 j hj, e j hj], h.2⟩
theorem Row.drew (h : Row w b n f) : Row w.drew b n f := h
theorem Row.drewN (h : Row w b n f) (k : Nat) : Row (w.drewN k) b n f := h
theorem Row.alloc (h : Row w b n f) (o : Obj) : Row (w.alloc o) b n f :=
  ⟨fun j hj => (World.cell?_alloc_lt w o ⟨b, j, none⟩ h.2.2).trans (h.1 j hj), fun j => (World.frozen?_alloc_old w o ⟨b, j, none⟩ (Nat.ne_of_lt h.2.2)).trans (h.2.1 j), by have := h.2.2; simp; omega⟩
theorem Row.since (h : Row w b n f) (k : Since w w') : Row w' b n f := ⟨fun j hj => (k.1 b j h.2.2).trans (h.1 j hj), fun j => (k.2.1 b j h.2.2).trans (h.2.1 j), k.2.2.1 b h.2.2⟩
theorem Row.far (h : Row w b n f) {b' : Nat} (hb : b' ≠ b) (o : Nat) (v : Value) : Row (w.setCell ⟨b', o, none⟩ v) b n f :=
  ⟨fun j hj => by rw [cell_set, if_neg (fun e => hb e.1)]; exact h.1 j hj, fun j => (World.frozen?_setCell _ _ _ _).trans (h.2.1 j), by simpa [World.setCell] using h.2.2⟩
theorem Row.set (h : Row w b n f) (i : Nat) (v : Value) : Row (w.setCell ⟨b, i, none⟩ v) b n (fun j => if j = i then v else f j) := by
  refine ⟨fun j hj => ?_, fun j => (World.frozen?_setCell _ _ _ _).trans (h.2.1 j), by simpa [World.setCell] using h.2.2⟩
  rw [cell_set]
  by_cases e : j = i
  · subst e; rw [if_pos ⟨rfl, rfl⟩, h.1 j hj]; simp
  · rw [if_neg (fun x => e x.2.symm), h.1 j hj]; simp [e]
end

section
variable {H : Type} {enc : TypeId × Value → H} {P : Program}
/-- The law's last step where the call left all that was there as it was. -/
theorem post_since {f : Func} {s : ChangeSpec} {apart fresh handsOn again : Bool} {W W' : World} {args : Array Value} {v : Value} {ds gs : List (DataW H)} {before pa pv : List MemPlace}
    (hW : DataW.Whole enc P f.params.toList s.vars apart W args.toList ds gs before)
    (hres : ∀ (b : Nat) (sp : Nat → Bool) (hd : Bool), DataW.TrodAll enc P W' b sp hd f.resultTypes.toList (v.resultList f.resultTypes.size) (s.fn H (ds ++ gs)).results [])
    (hargs : ∀ sp : Nat → Bool, (∀ p ∈ before, sp p.block = true) → DataW.TrodAll enc P W' 0 sp true f.params.toList args.toList (s.fn H (ds ++ gs)).args pa)
    (hvars : ∀ sp : Nat → Bool, (∀ p ∈ before, sp p.block = true) → DataW.TrodVars enc P W' sp s.vars (s.fn H (ds ++ gs)).vars pv)
    (hps : before = pa ++ pv) (hb : Since W W')
    (hok : ∀ (j : Nat) (t : TypeId) (r : Value), f.resultTypes[j]? = some t → (v.resultList f.resultTypes.size)[j]? = some r → Value.okWide P W' .any 0 t r) :
    s.post enc P f apart fresh handsOn again W args v W' := by
  have B := hb.below
  have old : ∀ p ∈ before, p.block < W.heap.size := fun p hp => hW.lt p hp
  have kept : ∀ p ∈ before, (fun b => decide (b < W.heap.size)) p.block = true := fun p hp => by simpa using old p hp
  refine ⟨ds, gs, before, [], pa, pv, hW, hres _ _ _, hargs _ kept, hvars _ kept, World.keptBut_mono (fun p hp => ⟨hp, ?_⟩) (B.frame (· ∈ before)), fun _ => ?_⟩
  · rw [hps, List.mem_append] at hp
    exact Or.inr hp
  · obtain ⟨_, _, _, _, _, hz, hn⟩ := hW
    refine ⟨hok, _, _, ([] ++ pa) ++ pv, ⟨[] ++ pa, pv, trodAll_append (hargs _ (fun _ _ => rfl)) (hres _ _ _), hvars _ (fun _ _ => rfl), rfl, ?_, ?_⟩, ?_⟩
    · intro b off hp
      have inb : MemPlace.cell b off ∈ before := by rw [hps]; simpa using hp
      rw [B.frozen (old _ inb)]
      exact hz b off inb
    · intro ha
      have := hn ha
      rw [hps] at this
      simpa using this
    · intro p hp _
      rw [hps]
      simpa using hp
end
end Go.Proofs.Ytcjjcjpkmjbfkaa

/-
  Words of this proof's own for slices: 'Rd' (a slice that reads as a function of the place), 'tab' (such a function's list), own rows.
-/
namespace Go.Proofs.Ytcjjcjpkmjbfkaa
open Go.RowKit

def In64 (n : Int) : Prop := -9223372036854775808 ≤ n ∧ n ≤ 9223372036854775807
def InP (x y : Int) : Prop := In64 x ∧ In64 y

def tab (n : Nat) (V : Nat → Value) : List Value := (List.range n).map V
theorem tab_len (n : Nat) (V : Nat → Value) : (tab n V).length = n := by simp [tab]
theorem tab_get (n : Nat) (V : Nat → Value) (j : Nat) : (tab n V)[j]? = if j < n then some (V j) else none := by
  unfold tab
  split
  · rename_i h; simp [h]
  · rename_i h; simp [h]
theorem tab_congr {n : Nat} {V U : Nat → Value} (h : ∀ j, j < n → V j = U j) : tab n V = tab n U := by
  apply List.ext_getElem?
  intro j
  rw [tab_get, tab_get]
  split
  · rw [h j (by assumption)]
  · rfl
theorem tab_zero (V : Nat → Value) : tab 0 V = [] := rfl
theorem tab_append (n m : Nat) (V U : Nat → Value) : tab n V ++ tab m U = tab (n + m) (fun j => if j < n then V j else U (j - n)) := by
  apply List.ext_getElem?
  intro j
  rw [List.getElem?_append, tab_len, tab_get, tab_get, tab_get]
  by_cases h : j < n
  · rw [if_pos h, if_pos h, if_pos (by omega), if_pos h]
  · rw [if_neg h, if_neg h]
    by_cases h2 : j - n < m
    · rw [if_pos h2, if_pos (by omega)]
    · rw [if_neg h2, if_neg (by omega)]
theorem tab_one (V : Nat → Value) : tab 1 V = [V 0] := rfl
theorem tab_rep (n : Nat) (v : Value) : List.replicate n v = tab n (fun _ => v) := by
  apply List.ext_getElem?
  intro j
  rw [tab_get, List.getElem?_replicate]
def IntRow (k : IntKind) (f : Nat → Int) (j : Nat) : Value := .int k (f j)
theorem tab_ones {n : Nat} {k : IntKind} {f : Nat → Int} : ∀ u ∈ tab n (IntRow k f), u.oneCell' = true := by
  intro u hu
  unfold tab at hu
  rw [List.mem_map] at hu
  obtain ⟨j, _, rfl⟩ := hu
  rfl

/-- A slice's n elements read as V, in a block below B (nil and empty let in). -/
def Rd (w : World) (B : Nat) (A : Option Addr) (n : Nat) (V : Nat → Value) : Prop :=
  0 < n → ∃ b o, A = some ⟨b, o, none⟩ ∧ b < B ∧ ∀ j, j < n → w.cell? ⟨b, o + j, none⟩ = some (V j)
section
variable {w w' : World} {B B' n : Nat} {A : Option Addr} {V U : Nat → Value}
theorem Rd.zero : Rd w B A 0 V := fun h => absurd h (by omega)
theorem Rd.keep (h : Rd w B A n V) (hk : ∀ b o, b < B → w'.cell? ⟨b, o, none⟩ = w.cell? ⟨b, o, none⟩) : Rd w' B A n V := fun hn => by
  obtain ⟨b, o, rfl, hb, hc⟩ := h hn
  exact ⟨b, o, rfl, hb, fun j hj => (hk _ _ hb).trans (hc j hj)⟩
theorem Rd.more (h : Rd w B A n V) (hB : B ≤ B') : Rd w B' A n V := fun hn => by
  obtain ⟨b, o, rfl, hb, hc⟩ := h hn
  exact ⟨b, o, rfl, by omega, hc⟩
theorem Rd.congr (h : Rd w B A n V) (e : ∀ j, j < n → V j = U j) : Rd w B A n U := fun hn => by
  obtain ⟨b, o, rfl, hb, hc⟩ := h hn
  exact ⟨b, o, rfl, hb, fun j hj => (hc j hj).trans (by rw [e j hj])⟩
theorem Rd.since (h : Rd w B A n V) (hB : B ≤ w.heap.size) (k : Since w w') : Rd w' B A n V := h.keep fun b o hb => k.1 b o (by omega)
theorem Rd.on (h : Rd w w.heap.size A n V) (k : Since w w') : Rd w' w'.heap.size A n V := (h.since (Nat.le_refl _) k).more k.below.size
theorem Rd.drew (h : Rd w B A n V) : Rd w.drew B A n V := h
theorem Rd.drewN (h : Rd w B A n V) (k : Nat) : Rd (w.drewN k) B A n V := h
theorem Rd.alloc (h : Rd w B A n V) (hB : B ≤ w.heap.size) (o : Obj) : Rd (w.alloc o) B A n V := h.keep fun b p hb => World.cell?_alloc_lt w o ⟨b, p, none⟩ (show b < w.heap.size by omega)
theorem Rd.setCell (h : Rd w B A n V) {p : Addr} (hB : B ≤ p.block) (u : Value) : Rd (w.setCell p u) B A n V :=
  h.keep fun b o hb => World.cell?_setCell_other w p ⟨b, o, none⟩ u (fun e => by subst e; simp at hB; omega)
theorem Rd.of_row {b : Nat} (h : Row w b n V) : Rd w w.heap.size (some ⟨b, 0, none⟩) n V := fun _ => ⟨b, 0, rfl, h.2.2, fun j hj => by rw [Nat.zero_add]; exact h.1 j hj⟩
/-- The first cells alone; those from a place on, as the walk writes a slice expression. -/
theorem Rd.take (h : Rd w B A n V) {m : Nat} (hm : m ≤ n) : Rd w B A m V := fun h0 => by
  obtain ⟨b, o, rfl, hb, hc⟩ := h (by omega)
  exact ⟨b, o, rfl, hb, fun j hj => hc j (by omega)⟩
theorem Rd.drop (h : Rd w B A n V) {k cap m : Nat} (hk : k + m ≤ n) (hc : n ≤ cap) : Rd w B (if cap = k then A else A.map (·.add k)) m (fun j => V (k + j)) := fun h0 => by
  obtain ⟨b, o, rfl, hb, hcell⟩ := h (by omega)
  rw [if_neg (by omega)]
  refine ⟨b, o + k, ?_, hb, fun j hj => ?_⟩
  · unfold Addr.add; split <;> simp_all
  · rw [Nat.add_assoc]; exact hcell _ (by omega)
/-- An own row's cells. -/
theorem row_of_own {base : Nat} {e : TypeId} {g cap : Nat} (h : w.ownsRow base e 1 (.slice (some ⟨g, 0, none⟩) n cap) n (tab n V)) : Row w g n V := by
  refine ⟨fun j hj => ?_, fun j => h.frozenAt j, ?_⟩
  · rw [h.cellAt j (by omega), tab_get, if_pos hj]
  · rcases h.2 with ⟨e1, _⟩ | ⟨g', c', cur, e1, _, hh, _⟩
    · cases e1
    · injection e1 with e1 _ _
      injection e1 with e1
      injection e1 with e1
      subst e1
      rcases Nat.lt_or_ge g w.heap.size with hlt | hge
      · exact hlt
      · rw [Array.getElem?_eq_none hge] at hh; cases hh
theorem own_base {base : Nat} {e : TypeId} {g cap : Nat} {xs : List Value} (h : w.ownsRow base e 1 (.slice (some ⟨g, 0, none⟩) n cap) n xs) : base ≤ g := by
  rcases h.2 with ⟨e1, _⟩ | ⟨g', c', cur, e1, hb, _⟩
  · cases e1
  · injection e1 with e1 _ _
    injection e1 with e1
    injection e1 with e1
    omega
theorem own_since {base : Nat} {e : TypeId} {v : Value} {xs : List Value} (h : w.ownsRow base e 1 v n xs) (k : Since w w') : w'.ownsRow base e 1 v n xs := by
  refine ⟨h.1, ?_⟩
  rcases h.2 with h0 | ⟨g, cap, cur, e1, hb, hh, r⟩
  · exact .inl h0
  · refine .inr ⟨g, cap, cur, e1, hb, ?_, r⟩
    have hlt : g < w.heap.size := by
      rcases Nat.lt_or_ge g w.heap.size with hlt | hge
      · exact hlt
      · rw [Array.getElem?_eq_none hge] at hh; cases hh
    rw [k.below.block g hlt]; exact hh
theorem since_grown {w0 : World} {row : Option Nat} (h : Since w0 w) (hg : w.grownBy w' row) (hr : ∀ k, row = some k → w0.heap.size ≤ k) : Since w0 w' := since_of (h.below.grown hg h.below.size hr)
end

section
variable {P : Program} (w : World)
/-- append to a row of the call's own that is no nil: of elements that read so, nil and empty let in: the new value written out, and where it lies. -/
theorem run_append_rd (base : Nat) (t ty e : TypeId) (i : TypeInfo) (z : Value) (bytes : Nat) (ht : P.underlying t = some (.slice e)) (hi : P.info? e = some i) (hz : i.zero = some z)
    (hsize : i.size = 1) (hby : i.bytes = bytes) (hzs : z.cells.size = 1) (g cap n : Nat) (xs : List Value) (hown : w.ownsRow base e 1 (.slice (some ⟨g, 0, none⟩) n cap) n xs)
    (B : Nat) (A : Option Addr) (m c : Nat) (V : Nat → Value) (hr : Rd w B A m V) (h1 : ∀ u ∈ tab m V, u.oneCell' = true) (hbytes : (n + m) * bytes ≤ 140737488355328) (h63 : n + m ≤ maxLen) (hbase : base ≤ w.heap.size) :
    ∃ g' cap' w', (Builtin.append_ #[t, t] ty #[.slice (some ⟨g, 0, none⟩) n cap, .slice A m c]).run P w = .ok (.slice (some ⟨g', 0, none⟩) (n + m) cap') w' ∧ w'.ownsRow base e 1 (.slice (some ⟨g', 0, none⟩) (n + m) cap') (n + m) (xs ++ tab m V) ∧ w.grownBy w' (some g) ∧ (g' = g ∨ g' = w.heap.size) := by
  have hcap : n ≤ cap := by
    rcases hown.2 with ⟨e1, _⟩ | ⟨_, _, _, e1, _, _, hnc, _⟩
    · cases e1
    · injection e1 with _ _ e3; omega
  rcases A with _ | ad
  · have hm : m = 0 := by
      rcases Nat.eq_zero_or_pos m with h0 | h0
      · exact h0
      · obtain ⟨b, o, h, _⟩ := hr h0; cases h
    subst hm
    refine ⟨g, cap, w, ?_, by simpa [tab_zero] using hown, World.grownBy.refl w _, .inl rfl⟩
    simp [Builtin.append_, run_underlying ht, sizeOf, typeInfo, hi, Builtin.lenOf, Builtin.firstCells, hcap, storeCells]
  · have hc : ∀ j u, (tab m V)[j]? = some u → w.cell? (ad.add j) = some u := by
      intro j u hu
      rw [tab_get] at hu
      split at hu
      · rename_i hj
        obtain ⟨b, o, h, _, hc⟩ := hr (by omega)
        injection h with h; subst h; injection hu with hu; subst hu
        rw [← hc j hj]
        unfold Addr.add; split <;> simp_all
      · cases hu
    obtain ⟨v', w', hrun, h2, h3, h4, h5⟩ := run_append_own_at (P := P) w base t ty e i z 1 bytes ht hi hz hsize hby hzs (by omega) _ n xs hown ad m c (tab m V) (by rw [tab_len]; omega) hc h1 h63 hbytes hbase
    rcases h2.2 with ⟨e1, _⟩ | ⟨g', cap', _, e1, _⟩
    · exact absurd (h4.mp e1).1 (by simp)
    · subst e1
      refine ⟨g', cap', w', hrun, h2, h3, ?_⟩
      rcases h5 with h5 | h5
      · left; simpa [Value.ownBlock] using h5
      · right; simpa [Value.ownBlock] using h5

theorem wpList_append_rd {ops : Array Oper} {rest : List Oper} {o : Oper} {a : Act} {Q : Exit → Act → World → Prop} (hgd : o.guard = none) (s x : Operand) (t : TypeId)
    (ho : o.op = .call { callee := .builtin .append, args := #[s, x], argTypes := #[t, t] })
    (base : Nat) (e : TypeId) (i : TypeInfo) (z : Value) (bytes : Nat) (ht : P.underlying t = some (.slice e)) (hi : P.info? e = some i) (hz : i.zero = some z)
    (hsize : i.size = 1) (hby : i.bytes = bytes) (hzs : z.cells.size = 1) (g cap n : Nat) (xs : List Value) (hs : a.eval s = .slice (some ⟨g, 0, none⟩) n cap) (hown : w.ownsRow base e 1 (.slice (some ⟨g, 0, none⟩) n cap) n xs)
    (B : Nat) (A : Option Addr) (m c : Nat) (V : Nat → Value) (hx : a.eval x = .slice A m c) (hr : Rd w B A m V) (h1 : ∀ u ∈ tab m V, u.oneCell' = true) (hbytes : (n + m) * bytes ≤ 140737488355328) (h63 : n + m ≤ maxLen) (hbase : base ≤ w.heap.size)
    (h : ∀ g' cap' w', w'.ownsRow base e 1 (.slice (some ⟨g', 0, none⟩) (n + m) cap') (n + m) (xs ++ tab m V) → w.grownBy w' (some g) → (g' = g ∨ g' = w.heap.size) → wpList P ops Q rest (a.put o.dst (.slice (some ⟨g', 0, none⟩) (n + m) cap')) w') :
    wpList P ops Q (o :: rest) a w := by
  refine wpList_plain hgd fun K hK => ?_
  obtain ⟨g', cap', w', hr, h2, h3, h4⟩ := run_append_rd (P := P) w base t o.type e i z bytes ht hi hz hsize hby hzs g cap n xs hown B A m c V hr h1 hbytes h63 hbase
  unfold Oper.wp execOp
  simp only [ho, resolve, invoke, builtin, Sem.run_bind, Sem.run_pure, Result.andThen_ok, List.map_toArray, List.map_cons, List.map_nil, hs, hx, hr]
  exact hK _ _ (h g' cap' w' h2 h3 h4)
end

section
variable {P : Program} (w : World)
/-- make([]T, n), T of one cell: an own row of noughts. -/
theorem wpList_make_tab {ops : Array Oper} {rest : List Oper} {o : Oper} {a : Act} {Q : Exit → Act → World → Prop}
    (hg : o.guard = none) (l c : Operand) (t : TypeId) (hop : o.op = Op.makeSlice t l c)
    (e : TypeId) (i : TypeInfo) (k : IntKind) (bytes : Nat) (h1 : P.underlying t = some (.slice e)) (h2 : P.info? e = some i) (h3 : i.zero = some (.int k 0)) (h4 : i.size = 1) (h5 : i.bytes = bytes)
    (kl kc : IntKind) (n : Nat) (hl : a.eval l = .int kl (n : Int)) (hc : a.eval c = .int kc (n : Int)) (b2 : bytes * n ≤ 281474976710656) (b3 : n ≤ maxLen)
    (hK : ∀ w', w'.ownsRow w.heap.size e 1 (.slice (some ⟨w.heap.size, 0, none⟩) n n) n (tab n (IntRow k (fun _ => 0))) → Since w w' → wpList P ops Q rest (a.put o.dst (.slice (some ⟨w.heap.size, 0, none⟩) n n)) w') :
    wpList P ops Q (o :: rest) a w := by
  refine wpList_make_full w hg l c t hop w.heap.size e i (.int k 0) 1 h1 h2 h3 h4 kl kc (n : Int) (n : Int) n hl hc rfl rfl (by rw [h5]; exact b2) b3 (Nat.le_refl _) (fun w' hown hgr => hK w' ?_ (since_grown (Since.refl w) hgr (fun k hk => by cases hk)))
  have e1 : (madeCells (Value.int k 0).cells (n * 1)).toList = tab n (IntRow k (fun _ => 0)) := by
    rw [show (Value.int k 0).cells = #[.int k 0] from rfl, Nat.mul_one, toList_madeCells_one, tab_rep]
    rfl
  rw [e1] at hown
  exact hown
end
end Go.Proofs.Ytcjjcjpkmjbfkaa

/-
  Layer 2: 'Copy' and 'Same', walked.
-/
namespace Go.Proofs.Ytcjjcjpkmjbfkaa
open Go.RowKit
set_option linter.unusedVariables false

theorem Try.info_u8 : (Try.prog.info? 5).map (fun i => (i.zero, i.size, i.bytes)) = some (some (.int .u8 0), 1, 1) := by kernel_rfl
def U8 (f : Nat → Int) : Nat → Value := IntRow .u8 f
/-- A row of the call's own, of bytes. -/
def Own (w : World) (B g cap n : Nat) (f : Nat → Int) : Prop := w.ownsRow B 5 1 (.slice (some ⟨g, 0, none⟩) n cap) n (tab n (U8 f))
theorem Own.row {w : World} {B g cap n : Nat} {f : Nat → Int} (h : Own w B g cap n f) : Row w g n (U8 f) := row_of_own h
theorem Own.base {w : World} {B g cap n : Nat} {f : Nat → Int} (h : Own w B g cap n f) : B ≤ g := own_base h

set_option maxHeartbeats 4000000 in
theorem ref_copy (A : Option Addr) (n c : Nat) (f : Nat → Int) (w : World) (h : Rd w w.heap.size A n (U8 f)) (hn : n ≤ 140737488355328) :
    Calls Try.prog 9 #[.slice A n c] w fun e w' => ∃ g cap, e = .returned (.slice (some ⟨g, 0, none⟩) n cap) ∧ Own w' w.heap.size g cap n f ∧ Since w w' := by
  obtain ⟨i0, hi0, hz0, hz1, hz2⟩ := info_parts Try.info_u8
  have h0 : (w.alloc (.cells #[] 5)).ownsRow w.heap.size 5 1 (.slice (some ⟨w.heap.size, 0, none⟩) 0 0) 0 [] :=
    ⟨rfl, .inr ⟨_, 0, #[], rfl, Nat.le_refl _, heap_alloc_new w _, Nat.le_refl _, by simp [maxLen], rfl, rfl⟩⟩
  have q1 : Rd (w.alloc (.cells #[] 5)) w.heap.size A n (U8 f) := h.alloc (Nat.le_refl _) _
  have q2 : ∀ u ∈ tab n (U8 f), u.oneCell' = true := tab_ones
  have q3 : (0 + n) * 1 ≤ 140737488355328 := by omega
  have q4 : 0 + n ≤ maxLen := by simp only [maxLen]; omega
  have q5 : w.heap.size ≤ (w.alloc (.cells #[] 5)).heap.size := by simp
  go_enter Try.func9, Try.ntmps9
  go_wp2_with (at_builtin; refine wpList_append_rd _ (by rfl) (.tmp 3) (.tmp 4) _ (by rfl) w.heap.size 5 i0 _ 1 Try.underlying25 hi0 hz0 hz1 hz2 (by rfl) w.heap.size 0 0 [] (by rfl) h0 w.heap.size A n c (U8 f) (by rfl) q1 q2 q3 q4 q5 ?_; intro g' cap' w1 hown1 hg1 hat1; clear h q1 q2 q3 q4 q5 h0)
  go_ret
  simp only [Nat.zero_add, List.nil_append] at hown1
  exact ⟨g', cap', rfl, hown1, since_grown ((Since.refl w).alloc _) hg1 (fun k hk => by injection hk with hk; omega)⟩

def bytesOf (n : Nat) (f : Nat → Int) : List Int := (List.range n).map f
theorem Rd.conv {w : World} {B n : Nat} {A : Option Addr} {f : Nat → Int} (h : Rd w B A n (U8 f)) (c : Nat) :
    (convert 25 9 (.slice A n c)).run Try.prog w = .ok (.string (strOfNums (bytesOf n f))) w := by
  rcases Nat.eq_zero_or_pos n with h0 | h0
  · subst h0
    rcases A with _ | ad
    · exact run_convert_bytes_nil w _ _ Try.underlying25 Try.underlying5 0 c _ Try.underlying9
    · rw [run_convert_bytes_string w _ _ _ _ _ _ Try.underlying25 Try.underlying5 Try.underlying9]
      simp [Conv.bytesToString, loadCells, loadCellsFrom, bytesOf, strOfNums, Sem.run_pure]
      rfl
  · obtain ⟨b, o, rfl, _, hc⟩ := h h0
    refine run_convert_bytes_arg w _ _ Try.underlying25 Try.underlying5 b o n c (bytesOf n f) (by simp [bytesOf]) (fun i hi => ?_) _ Try.underlying9
    rw [hc i hi]
    simp [bytesOf, hi, U8, IntRow]
theorem bytesOf_congr {n : Nat} {f g : Nat → Int} (h : ∀ j, j < n → f j = g j) : bytesOf n f = bytesOf n g := by
  unfold bytesOf
  exact List.map_congr_left fun j hj => h j (by simpa using hj)
set_option maxHeartbeats 4000000 in
/-- 'Same' of the same bytes. -/
theorem ref_same (A B : Option Addr) (n c d : Nat) (f g : Nat → Int) (w : World) (h1 : Rd w w.heap.size A n (U8 f)) (h2 : Rd w w.heap.size B n (U8 g)) (hfg : ∀ j, j < n → f j = g j) :
    Calls Try.prog 13 #[.slice A n c, .slice B n d] w fun e w' => e = .returned (.bool true) ∧ w' = w := by
  have k1 := h1.conv c
  have k2 := h2.conv d
  rw [← bytesOf_congr hfg] at k2
  generalize strOfNums (bytesOf n f) = s at k1 k2
  clear h1 h2 hfg
  go_enter Try.func13, Try.ntmps13
  go_wp2
  go_ret
  exact ⟨by simp, rfl⟩
end Go.Proofs.Ytcjjcjpkmjbfkaa

/-
  Layer 2: 'holds' and 'There', walked.
-/
namespace Go.Proofs.Ytcjjcjpkmjbfkaa
open Go.RowKit
set_option linter.unusedVariables false

def Fits (n : Nat) (i k : Int) : Prop := 0 ≤ i ∧ i ≤ n ∧ k ≤ n - i
instance (n : Nat) (i k : Int) : Decidable (Fits n i k) := by unfold Fits; infer_instance

set_option maxHeartbeats 4000000 in
theorem be_holds (A : Option Addr) (n c : Nat) (i k : Int) (w : World) (hi : In64 i) (hk : In64 k) (hn : n ≤ 140737488355328) :
    Calls Try.prog 66 #[.slice A n c, .int .i64 i, .int .i64 k] w fun e w' => e = .returned (.bool (decide (Fits n i k))) ∧ w' = w := by
  have hn1 : (n : Int) ≤ 140737488355328 := by omega
  by_cases h1 : (0 : Int) ≤ i
  · have d1 : decide ((0 : Int) ≤ i) = true := by simpa using h1
    by_cases h2 : i ≤ (n : Int)
    · have d2 : decide (i ≤ (n : Int)) = true := by simpa using h2
      have hw : IntKind.i64.wrap ((n : Int) - i) = (n : Int) - i := by rw [IntKind.wrap_i64]; unfold In64 at *; omega
      have e : decide (Fits n i k) = decide (k ≤ (n : Int) - i) := by simp [Fits, h1, h2]
      rw [e]; clear e
      go_enter Try.func66, Try.ntmps66
      go_wp2
      go_ret
      exact ⟨rfl, rfl⟩
    · have d2 : decide (i ≤ (n : Int)) = false := by simpa using h2
      have e : decide (Fits n i k) = false := by simp [Fits, h2]
      rw [e]; clear e
      go_enter Try.func66, Try.ntmps66
      go_wp2
      go_ret
      exact ⟨rfl, rfl⟩
  · have d1 : decide ((0 : Int) ≤ i) = false := by simpa using h1
    have e : decide (Fits n i k) = false := by simp [Fits, h1]
    rw [e]; clear e
    go_enter Try.func66, Try.ntmps66
    go_wp2
    go_ret
    exact ⟨rfl, rfl⟩

set_option maxHeartbeats 4000000 in
theorem ref_there (A : Option Addr) (n c : Nat) (i k : Int) (w : World) (hi : In64 i) (hk : In64 k) (hn : n ≤ 140737488355328) :
    Calls Try.prog 65 #[.slice A n c, .int .i64 i, .int .i64 k] w fun e w' => e = .returned (.bool (decide (0 ≤ k ∧ Fits n i k))) ∧ w' = w := by
  have hn1 : (n : Int) ≤ 140737488355328 := by omega
  by_cases h1 : (0 : Int) ≤ i
  · have d1 : decide ((0 : Int) ≤ i) = true := by simpa using h1
    by_cases h0 : (0 : Int) ≤ k
    · have d0 : decide ((0 : Int) ≤ k) = true := by simpa using h0
      by_cases h2 : i ≤ (n : Int)
      · have d2 : decide (i ≤ (n : Int)) = true := by simpa using h2
        have hw : IntKind.i64.wrap ((n : Int) - i) = (n : Int) - i := by rw [IntKind.wrap_i64]; unfold In64 at *; omega
        have e : decide (0 ≤ k ∧ Fits n i k) = decide (k ≤ (n : Int) - i) := by simp [Fits, h1, h2, h0]
        rw [e]; clear e
        go_enter Try.func65, Try.ntmps65
        go_wp2
        go_ret
        exact ⟨rfl, rfl⟩
      · have d2 : decide (i ≤ (n : Int)) = false := by simpa using h2
        have e : decide (0 ≤ k ∧ Fits n i k) = false := by simp [Fits, h2]
        rw [e]; clear e
        go_enter Try.func65, Try.ntmps65
        go_wp2
        go_ret
        exact ⟨rfl, rfl⟩
    · have d0 : decide ((0 : Int) ≤ k) = false := by simpa using h0
      have e : decide (0 ≤ k ∧ Fits n i k) = false := by simp [h0]
      rw [e]; clear e
      go_enter Try.func65, Try.ntmps65
      go_wp2
      go_ret
      exact ⟨rfl, rfl⟩
  · have d1 : decide ((0 : Int) ≤ i) = false := by simpa using h1
    have e : decide (0 ≤ k ∧ Fits n i k) = false := by simp [Fits, h1]
    rw [e]; clear e
    go_enter Try.func65, Try.ntmps65
    go_wp2
    go_ret
    exact ⟨rfl, rfl⟩

/-- The number of k bytes from p on, the highest first. -/
def numAt (f : Nat → Int) (p : Nat) : Nat → Int
  | 0 => 0
  | k + 1 => 256 * numAt f p k + f (p + k)
theorem numAt_range {f : Nat → Int} {p : Nat} : ∀ {k : Nat}, (∀ j, j < p + k → 0 ≤ f j ∧ f j ≤ 255) → 0 ≤ numAt f p k ∧ numAt f p k < 256 ^ k
  | 0, _ => by simp [numAt]
  | k + 1, h => by
    have h1 := numAt_range (f := f) (p := p) (k := k) (fun j hj => h j (by omega))
    have h2 := h (p + k) (by omega)
    simp only [numAt]
    rw [Int.pow_succ]
    omega
theorem numAt_small {f : Nat → Int} {p j : Nat} (hj : j ≤ 4) (h : ∀ i, i < p + j → 0 ≤ f i ∧ f i ≤ 255) : 0 ≤ numAt f p j ∧ numAt f p j < 4294967296 ∧ (j ≤ 3 → numAt f p j < 16777216) := by
  have h1 := numAt_range h
  have hh : j = 0 ∨ j = 1 ∨ j = 2 ∨ j = 3 ∨ j = 4 := by omega
  rcases hh with rfl | rfl | rfl | rfl | rfl <;> (simp only [Int.reducePow] at h1; omega)
theorem or_byte (x y : Int) (h0 : 0 ≤ x) (h1 : x < 72057594037927936 / 2) (k0 : 0 ≤ y) (k1 : y ≤ 255) : bits .or .i64 (x * 256) y = 256 * x + y := by
  obtain ⟨a, rfl⟩ := Int.eq_ofNat_of_zero_le h0
  obtain ⟨b, rfl⟩ := Int.eq_ofNat_of_zero_le k0
  show IntKind.i64.wrap ((BitVec.ofInt 64 ((a : Int) * 256) ||| BitVec.ofInt 64 (b : Int)).toNat : Int) = _
  have e1 : BitVec.ofInt 64 ((a : Int) * 256) = BitVec.ofNat 64 (a * 256) := by
    rw [← BitVec.ofInt_natCast]; congr 1
  rw [e1, BitVec.ofInt_natCast, BitVec.toNat_or, BitVec.toNat_ofNat, BitVec.toNat_ofNat, Nat.mod_eq_of_lt (by omega), Nat.mod_eq_of_lt (by omega)]
  have e2 : a * 256 ||| b = a * 256 + b := by
    have := Nat.shiftLeft_add_eq_or_of_lt (i := 8) (show b < 2 ^ 8 by omega) a
    rw [Nat.shiftLeft_eq] at this
    simp only [Nat.reducePow] at this
    exact this.symm
  rw [e2, IntKind.wrap_i64]
  omega
/-- What 'U' answers. -/
def uAns (f : Nat → Int) (n : Nat) (i k : Int) : Int × Int := if k < 1 ∨ 4 < k then (0, 2) else if Fits n i k then (numAt f i.toNat k.toNat, 0) else (0, 3)

set_option maxHeartbeats 4000000 in
theorem be_u (A : Option Addr) (n c : Nat) (f : Nat → Int) (i k : Int) (w : World) (h : Rd w w.heap.size A n (U8 f)) (hf : ∀ j, j < n → 0 ≤ f j ∧ f j ≤ 255) (hi : In64 i) (hk : In64 k) (hn : n ≤ 140737488355328) :
    Calls Try.prog 55 #[.slice A n c, .int .i64 i, .int .i64 k] w fun e w' => e = .returned (.tuple #[.int .i64 (uAns f n i k).1, .int .i64 (uAns f n i k).2]) ∧ w' = w := by
  by_cases h1 : k < 1
  · have d1 : decide (k < 1) = true := by simpa using h1
    simp only [uAns, h1, true_or, if_true]
    clear h h1
    go_enter Try.func55, Try.ntmps55
    go_wp2
    go_ret2
    exact ⟨rfl, rfl⟩
  have d1 : decide (k < 1) = false := by simpa using h1
  by_cases h2 : 4 < k
  · have d2 : decide (4 < k) = true := by simpa using h2
    simp only [uAns, h2, or_true, if_true]
    clear h h1 h2
    go_enter Try.func55, Try.ntmps55
    go_wp2
    go_ret2
    exact ⟨rfl, rfl⟩
  have d2 : decide (4 < k) = false := by simpa using h2
  by_cases h3 : Fits n i k
  · have d3 : decide (Fits n i k) = true := by simpa using h3
    obtain ⟨p, rfl⟩ : ∃ p : Nat, i = p := ⟨i.toNat, by have := h3.1; omega⟩
    obtain ⟨m, rfl⟩ : ∃ m : Nat, k = m := ⟨k.toNat, by omega⟩
    have h4 : p + m ≤ n := by have := h3.2.2; omega
    obtain ⟨b, o, rfl, hb, hc⟩ := h (by omega)
    simp only [uAns, h1, h2, or_self, if_false, h3, if_true, Int.toNat_natCast]
    have hm : m ≤ 4 := by omega
    have hm1 : 1 ≤ m := by omega
    clear h h1 h2 h3
    go_enter Try.func55, Try.ntmps55
    go_wp2_with (go_at_call 66; refine (be_holds _ n c p m w hi hk hn).mono ?_; rintro e w2 ⟨rfl, rfl⟩)
    go_loop [8, 22] (fun x y => ∃ j : Nat, j ≤ m ∧ x = .int .i64 (numAt f p j) ∧ y = .int .i64 j) (fun _ y => m - (intOf y).toNat)
    case atStart => exact ⟨0, by omega, rfl, rfl⟩
    case round =>
      obtain ⟨j, hj, rfl, rfl⟩ := hrel
      by_cases hjm : j < m
      · have hx : w2.cell? ⟨b, o + (p + j), none⟩ = some (.int .u8 (f (p + j))) := hc (p + j) (by omega)
        have hr := numAt_small (f := f) (p := p) (j := j) (by omega) (fun i hi => hf i (by omega))
        have hb8 := hf (p + j) (by omega)
        have hw8 : wrap64 (numAt f p j * 256) = numAt f p j * 256 := by unfold wrap64; omega
        have hjm' : (j : Int) < m := by omega
        clear hc
        have ho := or_byte (numAt f p j) (f (p + j)) (by omega) (by omega) (by omega) (by omega)
        go_wp2
        go_round
        case rel => exact ⟨j + 1, by omega, rfl, by simp⟩
        case measure => simp [intOf]; omega
      · obtain rfl : j = m := by omega
        go_wp2
        go_ret2
        exact ⟨rfl, rfl⟩
  · have d3 : decide (Fits n i k) = false := by simpa using h3
    simp only [uAns, h1, h2, or_self, if_false, h3]
    clear h h1 h2 h3
    go_enter Try.func55, Try.ntmps55
    go_wp2_with (go_at_call 66; refine (be_holds _ n c i k w hi hk hn).mono ?_; rintro e w2 ⟨rfl, rfl⟩)
    go_ret2
    exact ⟨rfl, rfl⟩

set_option maxHeartbeats 4000000 in
theorem ref_u (A : Option Addr) (n c : Nat) (f : Nat → Int) (i k : Int) (w : World) (h : Rd w w.heap.size A n (U8 f)) (hf : ∀ j, j < n → 0 ≤ f j ∧ f j ≤ 255) (hi : In64 i) (hk : In64 k) (hn : n ≤ 140737488355328) :
    Calls Try.prog 62 #[.slice A n c, .int .i64 i, .int .i64 k] w fun e w' => e = .returned (.tuple #[.int .i64 (uAns f n i k).1, .int .i64 (uAns f n i k).2]) ∧ w' = w := by
  by_cases h1 : k < 1
  · have d1 : decide (k < 1) = true := by simpa using h1
    simp only [uAns, h1, true_or, if_true]
    clear h h1
    go_enter Try.func62, Try.ntmps62
    go_wp2
    go_ret2
    exact ⟨rfl, rfl⟩
  have d1 : decide (k < 1) = false := by simpa using h1
  by_cases h2 : 4 < k
  · have d2 : decide (4 < k) = true := by simpa using h2
    simp only [uAns, h2, or_true, if_true]
    clear h h1 h2
    go_enter Try.func62, Try.ntmps62
    go_wp2
    go_ret2
    exact ⟨rfl, rfl⟩
  have d2 : decide (4 < k) = false := by simpa using h2
  by_cases h3 : Fits n i k
  · have d3 : decide (0 ≤ k ∧ Fits n i k) = true := by simp [h3]; omega
    obtain ⟨p, rfl⟩ : ∃ p : Nat, i = p := ⟨i.toNat, by have := h3.1; omega⟩
    obtain ⟨m, rfl⟩ : ∃ m : Nat, k = m := ⟨k.toNat, by omega⟩
    have h4 : p + m ≤ n := by have := h3.2.2; omega
    have d4 : decide (Fits n (p : Int) (m : Int)) = true := by simpa using h3
    obtain ⟨b, o, rfl, hb, hc⟩ := h (by omega)
    simp only [uAns, h1, h2, or_self, if_false, h3, if_true, Int.toNat_natCast]
    have hm : m ≤ 4 := by omega
    have hm1 : 1 ≤ m := by omega
    clear h h1 h2 h3
    go_enter Try.func62, Try.ntmps62
    go_wp2_with (go_at_call 65; refine (ref_there _ n c p m w hi hk hn).mono ?_; rintro e w2 ⟨rfl, rfl⟩)
    go_loop [8, 9] (fun x y => ∃ j : Nat, j ≤ m ∧ x = .int .i64 (numAt f p j) ∧ y = .int .i64 ((p + j : Nat) : Int)) (fun _ y => p + m - (intOf y).toNat)
    case atStart => exact ⟨0, by omega, rfl, rfl⟩
    case round =>
      obtain ⟨j, hj, rfl, rfl⟩ := hrel
      by_cases hjm : j < m
      · have hx : w2.cell? ⟨b, o + (p + j), none⟩ = some (.int .u8 (f (p + j))) := hc (p + j) (by omega)
        have hr := numAt_small (f := f) (p := p) (j := j) (by omega) (fun i hi => hf i (by omega))
        have hb8 := hf (p + j) (by omega)
        clear hc
        have hjm' : ((p + j : Nat) : Int) < p + m := by omega
        have hjn : ((p + j : Nat) : Int) < n := by omega
        go_wp2
        go_round
        case rel => exact ⟨j + 1, by omega, rfl, by simp; omega⟩
        case measure => simp [intOf]; omega
      · obtain rfl : j = m := by omega
        go_wp2
        go_ret2
        exact ⟨rfl, rfl⟩
  · have d3 : decide (0 ≤ k ∧ Fits n i k) = false := by simp [h3]
    simp only [uAns, h1, h2, or_self, if_false, h3]
    clear h h1 h2 h3
    go_enter Try.func62, Try.ntmps62
    go_wp2_with (go_at_call 65; refine (ref_there _ n c i k w hi hk hn).mono ?_; rintro e w2 ⟨rfl, rfl⟩)
    go_ret2
    exact ⟨rfl, rfl⟩
end Go.Proofs.Ytcjjcjpkmjbfkaa

/-
  Layer 2: 'S', walked, program and reference.
-/
namespace Go.Proofs.Ytcjjcjpkmjbfkaa
open Go.RowKit
set_option linter.unusedVariables false

/-- A number of k bytes, with its sign. -/
def sgn (k : Nat) (x : Int) : Int := if 256 ^ k ≤ 2 * x then x - 256 ^ k else x
/-- What 'S' answers. -/
def sAns (f : Nat → Int) (n : Nat) (i k : Int) : Int × Int := if k < 1 ∨ 4 < k then (0, 2) else if Fits n i k then (sgn k.toNat (numAt f i.toNat k.toNat), 0) else (0, 3)
theorem fits_top {n : Nat} {i k : Int} (h3 : Fits n i k) (h1 : ¬ k < 1) : i.toNat + k.toNat ≤ n := by unfold Fits at h3; omega

set_option maxHeartbeats 4000000 in
theorem be_s (A : Option Addr) (n c : Nat) (f : Nat → Int) (i k : Int) (w : World) (h : Rd w w.heap.size A n (U8 f)) (hf : ∀ j, j < n → 0 ≤ f j ∧ f j ≤ 255) (hi : In64 i) (hk : In64 k) (hn : n ≤ 140737488355328) :
    Calls Try.prog 53 #[.slice A n c, .int .i64 i, .int .i64 k] w fun e w' => e = .returned (.tuple #[.int .i64 (sAns f n i k).1, .int .i64 (sAns f n i k).2]) ∧ w' = w := by
  have hu := be_u A n c f i k w h hf hi hk hn
  clear h
  by_cases h1 : k < 1 ∨ 4 < k
  · simp only [uAns, sAns, h1, if_true] at hu ⊢
    clear h1
    go_enter Try.func53, Try.ntmps53
    go_wp2_with (go_at_call 55; refine hu.mono ?_; rintro e w2 ⟨rfl, rfl⟩)
    go_ret2
    exact ⟨rfl, rfl⟩
  by_cases h3 : Fits n i k
  · simp only [uAns, sAns, h1, if_false, h3, if_true] at hu ⊢
    have hr := numAt_range (f := f) (p := i.toNat) (k := k.toNat) (fun j hj => hf j (by have := fits_top h3 (by omega); omega))
    generalize numAt f i.toNat k.toNat = x at hu hr ⊢
    have hh : k = 1 ∨ k = 2 ∨ k = 3 ∨ k = 4 := by omega
    clear h1 h3 hk hf hi hn
    rcases hh with rfl | rfl | rfl | rfl
    all_goals (simp only [sgn, Int.reduceToNat, Int.reducePow] at hr hu ⊢)
    all_goals (obtain ⟨hr1, hr2⟩ := hr)
    · by_cases hs : 128 ≤ x
      · have hd : decide (x / 128 = 1) = true := by simp; omega
        have hd' : (x / 128 == 1) = true := by simp; omega
        have e1 : wrap64 (x - 256) = x - 256 := by unfold wrap64; omega
        rw [if_pos (by omega)]
        go_enter Try.func53, Try.ntmps53
        go_wp2_with (go_at_call 55; refine hu.mono ?_; rintro e w2 ⟨rfl, rfl⟩)
        go_ret2
        exact ⟨rfl, rfl⟩
      · have hd : decide (x / 128 = 1) = false := by simp; omega
        have hd' : (x / 128 == 1) = false := by simp; omega
        rw [if_neg (by omega)]
        go_enter Try.func53, Try.ntmps53
        go_wp2_with (go_at_call 55; refine hu.mono ?_; rintro e w2 ⟨rfl, rfl⟩)
        go_ret2
        exact ⟨rfl, rfl⟩
    · by_cases hs : 32768 ≤ x
      · have hd : decide (x / 32768 = 1) = true := by simp; omega
        have hd' : (x / 32768 == 1) = true := by simp; omega
        have e1 : wrap64 (x - 65536) = x - 65536 := by unfold wrap64; omega
        rw [if_pos (by omega)]
        go_enter Try.func53, Try.ntmps53
        go_wp2_with (go_at_call 55; refine hu.mono ?_; rintro e w2 ⟨rfl, rfl⟩)
        go_ret2
        exact ⟨rfl, rfl⟩
      · have hd : decide (x / 32768 = 1) = false := by simp; omega
        have hd' : (x / 32768 == 1) = false := by simp; omega
        rw [if_neg (by omega)]
        go_enter Try.func53, Try.ntmps53
        go_wp2_with (go_at_call 55; refine hu.mono ?_; rintro e w2 ⟨rfl, rfl⟩)
        go_ret2
        exact ⟨rfl, rfl⟩
    · by_cases hs : 8388608 ≤ x
      · have hd : decide (x / 8388608 = 1) = true := by simp; omega
        have hd' : (x / 8388608 == 1) = true := by simp; omega
        have e1 : wrap64 (x - 16777216) = x - 16777216 := by unfold wrap64; omega
        rw [if_pos (by omega)]
        go_enter Try.func53, Try.ntmps53
        go_wp2_with (go_at_call 55; refine hu.mono ?_; rintro e w2 ⟨rfl, rfl⟩)
        go_ret2
        exact ⟨rfl, rfl⟩
      · have hd : decide (x / 8388608 = 1) = false := by simp; omega
        have hd' : (x / 8388608 == 1) = false := by simp; omega
        rw [if_neg (by omega)]
        go_enter Try.func53, Try.ntmps53
        go_wp2_with (go_at_call 55; refine hu.mono ?_; rintro e w2 ⟨rfl, rfl⟩)
        go_ret2
        exact ⟨rfl, rfl⟩
    · by_cases hs : 2147483648 ≤ x
      · have hd : decide (x / 2147483648 = 1) = true := by simp; omega
        have hd' : (x / 2147483648 == 1) = true := by simp; omega
        have e1 : wrap64 (x - 4294967296) = x - 4294967296 := by unfold wrap64; omega
        rw [if_pos (by omega)]
        go_enter Try.func53, Try.ntmps53
        go_wp2_with (go_at_call 55; refine hu.mono ?_; rintro e w2 ⟨rfl, rfl⟩)
        go_ret2
        exact ⟨rfl, rfl⟩
      · have hd : decide (x / 2147483648 = 1) = false := by simp; omega
        have hd' : (x / 2147483648 == 1) = false := by simp; omega
        rw [if_neg (by omega)]
        go_enter Try.func53, Try.ntmps53
        go_wp2_with (go_at_call 55; refine hu.mono ?_; rintro e w2 ⟨rfl, rfl⟩)
        go_ret2
        exact ⟨rfl, rfl⟩
  · simp only [uAns, sAns, h1, if_false, h3] at hu ⊢
    clear h1 h3
    go_enter Try.func53, Try.ntmps53
    go_wp2_with (go_at_call 55; refine hu.mono ?_; rintro e w2 ⟨rfl, rfl⟩)
    go_ret2
    exact ⟨rfl, rfl⟩

set_option maxHeartbeats 4000000 in
theorem ref_s (A : Option Addr) (n c : Nat) (f : Nat → Int) (i k : Int) (w : World) (h : Rd w w.heap.size A n (U8 f)) (hf : ∀ j, j < n → 0 ≤ f j ∧ f j ≤ 255) (hi : In64 i) (hk : In64 k) (hn : n ≤ 140737488355328) :
    Calls Try.prog 64 #[.slice A n c, .int .i64 i, .int .i64 k] w fun e w' => e = .returned (.tuple #[.int .i64 (sAns f n i k).1, .int .i64 (sAns f n i k).2]) ∧ w' = w := by
  have hu := ref_u A n c f i k w h hf hi hk hn
  clear h
  by_cases h1 : k < 1 ∨ 4 < k
  · simp only [uAns, sAns, h1, if_true] at hu ⊢
    clear h1
    go_enter Try.func64, Try.ntmps64
    go_wp2_with (go_at_call 62; refine hu.mono ?_; rintro e w2 ⟨rfl, rfl⟩)
    go_ret2
    exact ⟨rfl, rfl⟩
  by_cases h3 : Fits n i k
  · simp only [uAns, sAns, h1, if_false, h3, if_true] at hu ⊢
    have hr := numAt_range (f := f) (p := i.toNat) (k := k.toNat) (fun j hj => hf j (by have := fits_top h3 (by omega); omega))
    generalize numAt f i.toNat k.toNat = x at hu hr ⊢
    obtain ⟨m, rfl⟩ : ∃ m : Nat, k = m := ⟨k.toNat, by omega⟩
    simp only [Int.toNat_natCast] at hr hu ⊢
    have hm : m ≤ 4 := by omega
    have hp : ∀ j : Nat, j ≤ 4 → 1 ≤ (256 : Int) ^ j ∧ (256 : Int) ^ j ≤ 4294967296 := by
      intro j hj
      have hh : j = 0 ∨ j = 1 ∨ j = 2 ∨ j = 3 ∨ j = 4 := by omega
      rcases hh with rfl | rfl | rfl | rfl | rfl <;> decide
    have hpm := hp m hm
    clear h1 h3 hk hf hi hn
    go_enter Try.func64, Try.ntmps64
    go_wp2_with (go_at_call 62; refine hu.mono ?_; rintro e w2 ⟨rfl, rfl⟩)
    go_loop [10, 11] (fun x y => ∃ j : Nat, j ≤ m ∧ x = .int .i64 (256 ^ j) ∧ y = .int .i64 j) (fun _ y => m - (intOf y).toNat)
    case atStart => exact ⟨0, by omega, rfl, rfl⟩
    case round =>
      obtain ⟨j, hj, rfl, rfl⟩ := hrel
      by_cases hjm : j < m
      · have hpj := hp j (by omega)
        have hpk := hp (j + 1) (by omega)
        have hpe : (256 : Int) ^ (j + 1) = 256 ^ j * 256 := Int.pow_succ _ _
        have hwe : wrap64 ((256 : Int) ^ j * 256) = 256 ^ j * 256 := by rw [← hpe]; unfold wrap64; omega
        clear hpe
        go_wp2
        go_round
        case rel => exact ⟨j + 1, by omega, by rw [Int.pow_succ], by simp⟩
        case measure => simp [intOf]; omega
      · obtain rfl : j = m := by omega
        obtain ⟨hr1, hr2⟩ := hr
        by_cases hs : (256 : Int) ^ j ≤ 2 * x
        · have he := Lib.hid (show sgn j x = x - 256 ^ j from if_pos hs)
          go_wp2
          go_ret2
          rw [he.out]
          exact ⟨rfl, rfl⟩
        · have he := Lib.hid (show sgn j x = x from if_neg hs)
          go_wp2
          go_ret2
          rw [he.out]
          exact ⟨rfl, rfl⟩
  · simp only [uAns, sAns, h1, if_false, h3] at hu ⊢
    clear h1 h3
    go_enter Try.func64, Try.ntmps64
    go_wp2_with (go_at_call 62; refine hu.mono ?_; rintro e w2 ⟨rfl, rfl⟩)
    go_ret2
    exact ⟨rfl, rfl⟩
end Go.Proofs.Ytcjjcjpkmjbfkaa

/-
  Layer 2: 'Put', walked, program and reference.
-/
namespace Go.Proofs.Ytcjjcjpkmjbfkaa
open Go.RowKit
set_option linter.unusedVariables false

def clampW (k : Int) : Nat := if k < 0 then 0 else if 8 < k then 8 else k.toNat
theorem clampW_le (k : Int) : clampW k ≤ 8 := by unfold clampW; split <;> (try split) <;> omega
/-- The byte of n at place j of m. -/
def byteOf (n : Int) (m j : Nat) : Int := n / 2 ^ (8 * (m - 1 - j)) % 256

end Go.Proofs.Ytcjjcjpkmjbfkaa

/-
  Layer 2: the reference's 'Put', walked.
-/
namespace Go.Proofs.Ytcjjcjpkmjbfkaa
open Go.RowKit
set_option linter.unusedVariables false


def low64 (n : Int) : Int := n % 18446744073709551616
def at256 (n : Int) (j : Nat) : Int := low64 n / 256 ^ j
theorem at256_bd (n : Int) (j : Nat) : 0 ≤ at256 n j ∧ at256 n j < 18446744073709551616 := by
  have h0 : 0 ≤ low64 n := by unfold low64; omega
  have h1 : low64 n < 18446744073709551616 := by unfold low64; omega
  unfold at256
  have hp : (0 : Int) < 256 ^ j := Int.pow_pos (by decide)
  exact ⟨Int.ediv_nonneg h0 (by omega), Int.lt_of_le_of_lt (Int.ediv_le_self _ h0) h1⟩
theorem at256_next (n : Int) (j : Nat) : at256 n j / 256 = at256 n (j + 1) := by
  unfold at256
  rw [Int.ediv_ediv_of_nonneg (Int.le_of_lt (Int.pow_pos (by decide))), Int.pow_succ]
theorem at256_byte (n : Int) {m j : Nat} (hj : j < m) (hm : m ≤ 8) : at256 n j % 256 = byteOf n m (m - 1 - j) := by
  unfold byteOf
  rw [show m - 1 - (m - 1 - j) = j by omega]
  have hh : j = 0 ∨ j = 1 ∨ j = 2 ∨ j = 3 ∨ j = 4 ∨ j = 5 ∨ j = 6 ∨ j = 7 := by omega
  unfold at256 low64
  rcases hh with rfl | rfl | rfl | rfl | rfl | rfl | rfl | rfl <;> (simp only [Int.reducePow, Nat.reduceMul]; omega)

set_option maxRecDepth 100000 in
set_option maxHeartbeats 4000000 in
theorem ref_put (n k : Int) (w : World) (hn : In64 n) (hk : In64 k) :
    Calls Try.prog 26 #[.int .i64 n, .int .i64 k] w fun e w' => ∃ g, e = .returned (.slice (some ⟨g, 0, none⟩) (clampW k) (clampW k)) ∧ w.heap.size ≤ g ∧ Row w' g (clampW k) (U8 (byteOf n (clampW k))) ∧ Since w w' := by
  obtain ⟨i0, hi0, hz0, hz1, hz2⟩ := info_parts Try.info_u8
  by_cases h1 : 1 ≤ k ∧ k ≤ 8
  · obtain ⟨m, rfl⟩ : ∃ m : Nat, k = m := ⟨k.toNat, by omega⟩
    obtain ⟨h1, h2⟩ := h1
    have hm : m ≤ 8 := by omega
    have hm0 : 0 < m := by omega
    have hc : clampW m = m := by unfold clampW; rw [if_neg (by omega), if_neg (by omega)]; rfl
    rw [hc]
    have b1 : 1 * m ≤ 281474976710656 := by omega
    have b2 : m ≤ maxLen := by simp only [maxLen]; omega
    clear hc
    go_enter Try.func26, Try.ntmps26
    go_wp2_with (at_make; refine wpList_make_tab _ (by rfl) (.tmp 12) (.tmp 12) _ (by rfl) 5 i0 .u8 1 Try.underlying25 hi0 hz0 hz1 hz2 .i64 .i64 m (by rfl) (by rfl) b1 b2 ?_; intro w1 hown1 hS1)
    have hrow := row_of_own hown1
    clear hown1
    go_loopw [7, 8] (fun x y wr => ∃ j : Nat, j ≤ m ∧ x = .int .u64 (at256 n j) ∧ y = .int .i64 ((m : Nat) - 1 - (j : Int)) ∧ Since w wr ∧ Row wr w.heap.size m (U8 (fun q => if m ≤ q + j then byteOf n m q else 0))) (fun _ y _ => (intOf y + 1).toNat)
    case atStart => exact ⟨0, by omega, by simp [at256, low64, IntKind.wrap_u64], by simp, hS1, hrow.congr (fun q hq => by simp only [U8, IntRow]; rw [if_neg (by omega)])⟩
    case round =>
      obtain ⟨j, hj, rfl, rfl, hSr, hR⟩ := hrel
      by_cases hjm : j < m
      · obtain ⟨q, hq⟩ : ∃ q : Nat, q + 1 + j = m := ⟨m - 1 - j, by omega⟩
        have hqi : ((m : Nat) : Int) - 1 - (j : Int) = (q : Int) := by omega
        have hqm : (q : Int) < m := by omega
        have hcell := hR.1 q (by omega)
        have hfr := hR.2.1 q
        have hx := at256_bd n j
        have hnx := at256_next n j
        have hby := at256_byte n hjm (by omega)
        rw [show m - 1 - j = q by omega] at hby
        rw [hqi]
        go_wp2
        rw [hnx]
        refine ⟨⟨j + 1, by omega, rfl, by congr 1 <;> omega, hSr.setCell (Nat.le_refl _) _, (hR.set q _).congr (fun t ht => ?_)⟩, by simp [intOf] <;> omega⟩
        by_cases hqt : t = q
        · subst hqt
          simp only [U8, IntRow]
          rw [if_pos trivial, if_pos (by omega)]
        · simp only [U8, IntRow]
          rw [if_neg hqt]
          by_cases ht2 : m ≤ t + j
          · rw [if_pos ht2, if_pos (by omega)]
          · rw [if_neg ht2, if_neg (by omega)]
      · obtain rfl : m = j := by omega
        have hR' := hR.congr (g := U8 (byteOf n m)) (fun q hq => by simp only [U8, IntRow]; rw [if_pos (by omega)])
        clear hR
        go_wp2
        go_ret
        exact ⟨_, rfl, Nat.le_refl _, hR', hSr⟩
  by_cases h2 : k ≤ 0
  · have hc : clampW k = 0 := by unfold clampW; split <;> (try split) <;> omega
    rw [hc]
    have b1 : 1 * 0 ≤ 281474976710656 := by omega
    have b2 : 0 ≤ maxLen := by simp only [maxLen]; omega
    clear hc
    go_enter Try.func26, Try.ntmps26
    go_wp2_with (at_make; refine wpList_make_tab _ (by rfl) (.tmp 12) (.tmp 12) _ (by rfl) 5 i0 .u8 1 Try.underlying25 hi0 hz0 hz1 hz2 .i64 .i64 0 (by rfl) (by rfl) b1 b2 ?_; intro w1 hown1 hS1)
    have hrow := row_of_own hown1
    clear hown1
    go_loopw [7, 8] (fun x y wr => ∃ j : Nat, j ≤ 0 ∧ x = .int .u64 (at256 n j) ∧ y = .int .i64 ((0 : Nat) - 1 - (j : Int)) ∧ Since w wr ∧ Row wr w.heap.size 0 (U8 (fun q => if 0 ≤ q + j then byteOf n 0 q else 0))) (fun _ y _ => (intOf y + 1).toNat)
    case atStart => exact ⟨0, by omega, by simp [at256, low64, IntKind.wrap_u64], by simp, hS1, hrow.congr (fun q hq => by simp only [U8, IntRow]; rw [if_neg (by omega)])⟩
    case round =>
      obtain ⟨j, hj, rfl, rfl, hSr, hR⟩ := hrel
      by_cases hjm : j < 0
      · exact absurd hjm (by omega)
      · obtain rfl : 0 = j := by omega
        have hR' := hR.congr (g := U8 (byteOf n 0)) (fun q hq => by simp only [U8, IntRow]; rw [if_pos (by omega)])
        clear hR
        go_wp2
        go_ret
        exact ⟨_, rfl, Nat.le_refl _, hR', hSr⟩
  · have h2' : 8 < k := by omega
    have hc : clampW k = 8 := by unfold clampW; rw [if_neg (by omega), if_pos (by omega)]
    rw [hc]
    have b1 : 1 * 8 ≤ 281474976710656 := by omega
    have b2 : 8 ≤ maxLen := by simp only [maxLen]; omega
    clear hc
    go_enter Try.func26, Try.ntmps26
    go_wp2_with (at_make; refine wpList_make_tab _ (by rfl) (.tmp 12) (.tmp 12) _ (by rfl) 5 i0 .u8 1 Try.underlying25 hi0 hz0 hz1 hz2 .i64 .i64 8 (by rfl) (by rfl) b1 b2 ?_; intro w1 hown1 hS1)
    have hrow := row_of_own hown1
    clear hown1
    go_loopw [7, 8] (fun x y wr => ∃ j : Nat, j ≤ 8 ∧ x = .int .u64 (at256 n j) ∧ y = .int .i64 ((8 : Nat) - 1 - (j : Int)) ∧ Since w wr ∧ Row wr w.heap.size 8 (U8 (fun q => if 8 ≤ q + j then byteOf n 8 q else 0))) (fun _ y _ => (intOf y + 1).toNat)
    case atStart => exact ⟨0, by omega, by simp [at256, low64, IntKind.wrap_u64], by simp, hS1, hrow.congr (fun q hq => by simp only [U8, IntRow]; rw [if_neg (by omega)])⟩
    case round =>
      obtain ⟨j, hj, rfl, rfl, hSr, hR⟩ := hrel
      by_cases hjm : j < 8
      · obtain ⟨q, hq⟩ : ∃ q : Nat, q + 1 + j = 8 := ⟨8 - 1 - j, by omega⟩
        have hqi : ((8 : Nat) : Int) - 1 - (j : Int) = (q : Int) := by omega
        have hqm : (q : Int) < 8 := by omega
        have hcell := hR.1 q (by omega)
        have hfr := hR.2.1 q
        have hx := at256_bd n j
        have hnx := at256_next n j
        have hby := at256_byte n hjm (by omega)
        rw [show 8 - 1 - j = q by omega] at hby
        rw [hqi]
        go_wp2
        rw [hnx]
        refine ⟨⟨j + 1, by omega, rfl, by congr 1 <;> omega, hSr.setCell (Nat.le_refl _) _, (hR.set q _).congr (fun t ht => ?_)⟩, by simp [intOf] <;> omega⟩
        by_cases hqt : t = q
        · subst hqt
          simp only [U8, IntRow]
          rw [if_pos trivial, if_pos (by omega)]
        · simp only [U8, IntRow]
          rw [if_neg hqt]
          by_cases ht2 : 8 ≤ t + j
          · rw [if_pos ht2, if_pos (by omega)]
          · rw [if_neg ht2, if_neg (by omega)]
      · obtain rfl : 8 = j := by omega
        have hR' := hR.congr (g := U8 (byteOf n 8)) (fun q hq => by simp only [U8, IntRow]; rw [if_pos (by omega)])
        clear hR
        go_wp2
        go_ret
        exact ⟨_, rfl, Nat.le_refl _, hR', hSr⟩
end Go.Proofs.Ytcjjcjpkmjbfkaa

/-
  Blocks that are known whole, as a function of the place: 'All'; copy into such a block.
-/
namespace Go.Proofs.Ytcjjcjpkmjbfkaa
open Go.RowKit

/-- Block g is just n cells of type e that read as V; none is frozen. -/
def All (w : World) (g : Nat) (e : TypeId) (n : Nat) (V : Nat → Value) : Prop := w.heap[g]? = some (.cells (tab n V).toArray e (0, 0))
section
variable {w w' : World} {g n : Nat} {e : TypeId} {V U : Nat → Value}
theorem All.lt (h : All w g e n V) : g < w.heap.size := by
  rcases Nat.lt_or_ge g w.heap.size with hlt | hge
  · exact hlt
  · unfold All at h; rw [Array.getElem?_eq_none hge] at h; cases h
theorem All.congr (h : All w g e n V) (k : ∀ j, j < n → V j = U j) : All w g e n U := by unfold All at h ⊢; rw [← tab_congr k]; exact h
theorem All.since (h : All w g e n V) (k : Since w w') : All w' g e n V := (k.below.block g h.lt).trans h
theorem All.row (h : All w g e n V) : Row w g n V := by
  refine ⟨fun j hj => ?_, fun j => ?_, h.lt⟩
  · unfold All at h
    simp [World.cell?, h, tab_get, hj]
  · unfold All at h
    simp [World.frozen?, h]
theorem All.of_own {base : Nat} (h : w.ownsRow base e 1 (.slice (some ⟨g, 0, none⟩) n n) n (tab n V)) : All w g e n V := by
  rcases h.2 with ⟨e1, _⟩ | ⟨g', cap, cur, e1, hb, hh, hnc, hcm, hcs, ht⟩
  · cases e1
  · injection e1 with e1 _ e2
    injection e1 with e1
    injection e1 with e1
    subst e1; subst e2
    unfold All
    rw [hh, ← ht, Nat.mul_one]
    have : cur.toList.take n = cur.toList := List.take_of_length_le (by simp [hcs])
    rw [this]
end
section
variable {P : Program} {w : World}
/-- copy into a block that is known whole. -/
theorem wpList_copy_all {ops : Array Oper} {rest : List Oper} {o : Oper} {a : Act} {Q : Exit → Act → World → Prop} (hgd : o.guard = none) (d s : Operand) (dT sT : TypeId)
    (ho : o.op = .call { callee := .builtin .copy, args := #[d, s], argTypes := #[dT, sT] }) (elem : TypeId) (hu : P.underlying dT = some (.slice elem)) (hsz : (P.info? elem).map (·.size) = some 1)
    (dp sp : Option Addr) (dLen dCap sLen sCap : Nat) (hd : a.eval d = .slice dp dLen dCap) (hs : a.eval s = .slice sp sLen sCap)
    (g off n m : Nat) (e : TypeId) (V U : Nat → Value) (hg : All w g e n V) (B : Nat) (hr : Rd w B sp sLen U) (hm : m = Nat.min sLen dLen) (hdp : 0 < m → dp = some ⟨g, off, none⟩) (hfit : off + m ≤ n) (h1 : ∀ u ∈ tab m U, u.oneCell' = true)
    (w0 : World) (hS : Since w0 w) (hB : w0.heap.size ≤ g)
    (h : ∀ w', All w' g e n (fun j => if off ≤ j ∧ j < off + m then U (j - off) else V j) → Since w0 w' → wpList P ops Q rest (a.put o.dst (goInt m)) w') :
    wpList P ops Q (o :: rest) a w := by
  refine wpList_copy_splice hgd d s dT sT ho elem hu hsz dp sp dLen dCap sLen sCap hd hs g off (tab n V) e hg (tab m U) (by rw [tab_len, hm]) (fun hp => ?_) (by rw [tab_len, tab_len]; exact hfit) h1 w0.heap.size w0 hS.below hB (fun w' hw hb => ?_)
  · rw [tab_len] at hp
    have hms : m ≤ sLen := by rw [hm]; exact Nat.min_le_left _ _
    obtain ⟨b, o', rfl, _, hc⟩ := hr (by omega)
    refine ⟨hdp hp, _, rfl, fun j v hj => ?_⟩
    rw [tab_get] at hj
    split at hj
    · rename_i hjm
      injection hj with hj; subst hj
      rw [← hc j (by omega)]
      unfold Addr.add; split <;> simp_all
    · cases hj
  · rw [show (tab m U).length = m from tab_len m U]
    refine h w' ?_ (since_of hb)
    have hw2 : w'.heap[g]? = some (.cells (splice (tab n V) off (tab m U)).toArray e (0, 0)) := hw
    unfold All
    rw [hw2]
    congr 3
    apply List.ext_getElem?
    intro j
    unfold splice
    rw [List.getElem?_append, List.getElem?_append, List.length_take, tab_len, tab_len, List.getElem?_take, tab_get, tab_get, tab_get, List.getElem?_drop, tab_get]
    by_cases hj : j < off
    · rw [if_pos (by omega), if_pos hj, if_pos (by omega), if_pos (by omega), if_neg (by omega)]
    · rw [if_neg (by omega)]
      by_cases hj2 : j < off + m
      · rw [if_pos (by omega), if_pos (by omega), if_pos (by omega), if_pos ⟨by omega, hj2⟩]
        congr 2; omega
      · rw [if_neg (by omega)]
        by_cases hj3 : j < n
        · rw [if_pos (by omega), if_pos hj3, if_neg (by omega)]
          congr 2; omega
        · rw [if_neg (by omega), if_neg hj3]
end
end Go.Proofs.Ytcjjcjpkmjbfkaa

/-
  Layer 2: 'Lay', walked, program and reference; a slice that is new, to be written.
-/
namespace Go.Proofs.Ytcjjcjpkmjbfkaa
open Go.RowKit
set_option linter.unusedVariables false

/-- A slice that is new since B, to be written: its n elements read as V. -/
def Nw (w : World) (B : Nat) (A : Option Addr) (n : Nat) (V : Nat → Value) : Prop := 0 < n → ∃ g, A = some ⟨g, 0, none⟩ ∧ B ≤ g ∧ Row w g n V
section
variable {w w' : World} {B n : Nat} {A : Option Addr} {V U : Nat → Value}
theorem Nw.zero : Nw w B A 0 V := fun h => absurd h (by omega)
theorem Nw.rd (h : Nw w B A n V) : Rd w w.heap.size A n V := fun hn => by
  obtain ⟨g, rfl, hb, hr⟩ := h hn
  exact Rd.of_row hr hn
theorem Nw.since (h : Nw w B A n V) (k : Since w w') : Nw w' B A n V := fun hn => by
  obtain ⟨g, rfl, hb, hr⟩ := h hn
  exact ⟨g, rfl, hb, hr.since k⟩
theorem Nw.congr (h : Nw w B A n V) (e : ∀ j, j < n → V j = U j) : Nw w B A n U := fun hn => by
  obtain ⟨g, rfl, hb, hr⟩ := h hn
  exact ⟨g, rfl, hb, hr.congr e⟩
end
theorem Try.size_u8' : (Try.prog.info? 5).map (·.size) = some 1 := by kernel_rfl
theorem Own.cap {w : World} {B g cap n : Nat} {f : Nat → Int} (h : Own w B g cap n f) : n ≤ cap := by
  rcases h.2 with ⟨e1, _⟩ | ⟨_, _, _, e1, _, _, hnc, _⟩
  · cases e1
  · injection e1 with _ _ e3; omega
def layE (n m : Nat) (i : Int) : Int := if Fits n i m then 0 else 3
def layN (n m : Nat) (i : Int) : Nat := if Fits n i m then n else 0
def layF (f o : Nat → Int) (m : Nat) (i : Int) (j : Nat) : Int := if i.toNat ≤ j ∧ j < i.toNat + m then o (j - i.toNat) else f j
theorem lay_no {n m : Nat} {i : Int} (h : ¬ Fits n i m) : layE n m i = 3 ∧ layN n m i = 0 := by simp [layE, layN, h]
theorem lay_yes {n m : Nat} {i : Int} (h : Fits n i m) : layE n m i = 0 ∧ layN n m i = n := by simp [layE, layN, h]
/-- What 'Lay' leaves. -/
def LayPost (f o : Nat → Int) (n m : Nat) (i : Int) (w : World) (e : Ending) (w' : World) : Prop := ∃ A' l cap, e = .returned (.tuple #[.slice A' l cap, .int .i64 (layE n m i)]) ∧ l = layN n m i ∧ l ≤ cap ∧ Nw w' w.heap.size A' l (U8 (layF f o m i)) ∧ Since w w'

end Go.Proofs.Ytcjjcjpkmjbfkaa

/-
  Layer 2: reading and putting inside of the bytes; numbers laid over.
-/
namespace Go.Proofs.Ytcjjcjpkmjbfkaa
open Go.RowKit
set_option linter.unusedVariables false


theorem u_in (A : Option Addr) (n c : Nat) (f : Nat → Int) (p m : Nat) (x y : Int) (w : World) (h : Rd w w.heap.size A n (U8 f)) (hf : ∀ j, j < n → 0 ≤ f j ∧ f j ≤ 255) (hx : x = p) (hy : y = m) (hm : 1 ≤ m ∧ m ≤ 4) (hp : p + m ≤ n) (hn : n ≤ 140737488355328) :
    Calls Try.prog 55 #[.slice A n c, .int .i64 x, .int .i64 y] w fun e w' => e = .returned (.tuple #[.int .i64 (numAt f p m), .int .i64 0]) ∧ w' = w := by
  subst hx; subst hy
  have h' := be_u A n c f p m w h hf (by unfold In64; omega) (by unfold In64; omega) hn
  unfold uAns at h'
  rw [if_neg (by omega), if_pos (by unfold Fits; omega)] at h'
  simpa using h'

theorem ru_in (A : Option Addr) (n c : Nat) (f : Nat → Int) (p m : Nat) (x y : Int) (w : World) (h : Rd w w.heap.size A n (U8 f)) (hf : ∀ j, j < n → 0 ≤ f j ∧ f j ≤ 255) (hx : x = p) (hy : y = m) (hm : 1 ≤ m ∧ m ≤ 4) (hp : p + m ≤ n) (hn : n ≤ 140737488355328) :
    Calls Try.prog 62 #[.slice A n c, .int .i64 x, .int .i64 y] w fun e w' => e = .returned (.tuple #[.int .i64 (numAt f p m), .int .i64 0]) ∧ w' = w := by
  subst hx; subst hy
  have h' := ref_u A n c f p m w h hf (by unfold In64; omega) (by unfold In64; omega) hn
  unfold uAns at h'
  rw [if_neg (by omega), if_pos (by unfold Fits; omega)] at h'
  simpa using h'


theorem s_in (A : Option Addr) (n c : Nat) (f : Nat → Int) (p m : Nat) (x y : Int) (w : World) (h : Rd w w.heap.size A n (U8 f)) (hf : ∀ j, j < n → 0 ≤ f j ∧ f j ≤ 255) (hx : x = p) (hy : y = m) (hm : 1 ≤ m ∧ m ≤ 4) (hp : p + m ≤ n) (hn : n ≤ 140737488355328) :
    Calls Try.prog 53 #[.slice A n c, .int .i64 x, .int .i64 y] w fun e w' => e = .returned (.tuple #[.int .i64 (sgn m (numAt f p m)), .int .i64 0]) ∧ w' = w := by
  subst hx; subst hy
  have h' := be_s A n c f p m w h hf (by unfold In64; omega) (by unfold In64; omega) hn
  unfold sAns at h'
  rw [if_neg (by omega), if_pos (by unfold Fits; omega)] at h'
  simpa using h'

theorem rs_in (A : Option Addr) (n c : Nat) (f : Nat → Int) (p m : Nat) (x y : Int) (w : World) (h : Rd w w.heap.size A n (U8 f)) (hf : ∀ j, j < n → 0 ≤ f j ∧ f j ≤ 255) (hx : x = p) (hy : y = m) (hm : 1 ≤ m ∧ m ≤ 4) (hp : p + m ≤ n) (hn : n ≤ 140737488355328) :
    Calls Try.prog 64 #[.slice A n c, .int .i64 x, .int .i64 y] w fun e w' => e = .returned (.tuple #[.int .i64 (sgn m (numAt f p m)), .int .i64 0]) ∧ w' = w := by
  subst hx; subst hy
  have h' := ref_s A n c f p m w h hf (by unfold In64; omega) (by unfold In64; omega) hn
  unfold sAns at h'
  rw [if_neg (by omega), if_pos (by unfold Fits; omega)] at h'
  simpa using h'


theorem rput_in (m : Nat) (x y : Int) (w : World) (hx : In64 x) (hy : y = m) (hm : m ≤ 8) : Calls Try.prog 26 #[.int .i64 x, .int .i64 y] w fun e w' => ∃ g, e = .returned (.slice (some ⟨g, 0, none⟩) m m) ∧ w.heap.size ≤ g ∧ Row w' g m (U8 (byteOf x m)) ∧ Since w w' := by
  subst hy
  have hc : clampW m = m := by unfold clampW; split <;> (try split) <;> omega
  have h := ref_put x m w hx (by unfold In64; omega)
  rw [hc] at h
  exact h


theorem Nw.low {w : World} {B B' n : Nat} {A : Option Addr} {V : Nat → Value} (h : Nw w B A n V) (hB : B' ≤ B) : Nw w B' A n V := fun hn => by
  obtain ⟨g, rfl, hb, hr⟩ := h hn
  exact ⟨g, rfl, Nat.le_trans hB hb, hr⟩
theorem byte_range (n : Int) (m j : Nat) : 0 ≤ byteOf n m j ∧ byteOf n m j ≤ 255 := by
  unfold byteOf
  have h1 := Int.emod_nonneg (n / 2 ^ (8 * (m - 1 - j))) (show (256 : Int) ≠ 0 by decide)
  have h2 := Int.emod_lt_of_pos (n / 2 ^ (8 * (m - 1 - j))) (show (0 : Int) < 256 by decide)
  omega
/-- A number of two bytes laid at a place. -/
def lay2 (f : Nat → Int) (p : Nat) (x : Int) (j : Nat) : Int := if p ≤ j ∧ j < p + 2 then byteOf x 2 (j - p) else f j
theorem lay2_is (f : Nat → Int) (p : Nat) (x : Int) : layF f (byteOf x 2) 2 p = lay2 f p x := by
  funext j
  unfold layF lay2
  simp only [Int.toNat_natCast]
theorem lay2_comm (f : Nat → Int) (p q : Nat) (x y : Int) (h : p + 2 ≤ q ∨ q + 2 ≤ p) : lay2 (lay2 f p x) q y = lay2 (lay2 f q y) p x := by
  funext j
  unfold lay2
  by_cases h1 : q ≤ j ∧ j < q + 2
  · rw [if_pos h1, if_neg (by omega), if_pos h1]
  · rw [if_neg h1]
    by_cases h2 : p ≤ j ∧ j < p + 2
    · rw [if_pos h2, if_pos h2]
    · rw [if_neg h2, if_neg h2, if_neg h1]
theorem lay2_range {f : Nat → Int} {n p : Nat} {x : Int} (h : ∀ j, j < n → 0 ≤ f j ∧ f j ≤ 255) : ∀ j, j < n → 0 ≤ lay2 f p x j ∧ lay2 f p x j ≤ 255 := fun j hj => by
  unfold lay2
  split
  · exact byte_range _ _ _
  · exact h j hj
theorem num_lay2 (f : Nat → Int) (p : Nat) (x : Int) : numAt (lay2 f p x) p 2 = x % 65536 := by
  have e0 : lay2 f p x p = byteOf x 2 0 := by unfold lay2; rw [if_pos (by omega), Nat.sub_self]
  have e1 : lay2 f p x (p + 1) = byteOf x 2 1 := by unfold lay2; rw [if_pos (by omega), show p + 1 - p = 1 by omega]
  simp only [numAt, Nat.add_zero, e0, e1, byteOf, Nat.reduceSub, Nat.reduceMul, Int.reducePow]
  omega
theorem num_far (f : Nat → Int) (p q k : Nat) (x : Int) (h : p + 2 ≤ q ∨ q + k ≤ p) : numAt (lay2 f p x) q k = numAt f q k := by
  induction k with
  | zero => rfl
  | succ k ih =>
    simp only [numAt]
    rw [ih (by omega)]
    congr 1
    unfold lay2
    rw [if_neg (by omega)]
theorem sgn_mod {x : Int} (h : -32768 ≤ x ∧ x ≤ 32767) : sgn 2 (x % 65536) = x := by
  unfold sgn
  simp only [Int.reducePow]
  split <;> omega
theorem num_four (f : Nat → Int) (p : Nat) : numAt f p 4 = 65536 * numAt f p 2 + numAt f (p + 2) 2 := by
  simp only [numAt, Nat.add_zero]
  rw [show p + 2 + 1 = p + 3 by omega]
  omega
end Go.Proofs.Ytcjjcjpkmjbfkaa

/-
  Layer 8: what a composite glyph's bytes are, as lists of numbers; what any bytes read as; and that what is written is read. No walk.
-/
namespace Go.Proofs.Ytcjjcjpkmjbfkaa
open Go.RowKit
set_option linter.unusedVariables false

def putL (x : Int) (m : Nat) : List Int := (List.range m).map (byteOf x m)
theorem putL_len (x : Int) (m : Nat) : (putL x m).length = m := by simp [putL]
/-- Bytes from a place on are those of a list. -/
def AtL (f : Nat → Int) (p : Nat) (L : List Int) : Prop := ∀ j, j < L.length → f (p + j) = L.getD j 0
theorem AtL.left {f : Nat → Int} {p : Nat} {A B : List Int} (h : AtL f p (A ++ B)) : AtL f p A := fun j hj => by
  rw [h j (by simp; omega), List.getD_eq_getElem?_getD, List.getElem?_append_left hj, List.getD_eq_getElem?_getD]
theorem AtL.right {f : Nat → Int} {p : Nat} {A B : List Int} (h : AtL f p (A ++ B)) : AtL f (p + A.length) B := fun j hj => by
  rw [Nat.add_assoc, h (A.length + j) (by simp; omega), List.getD_eq_getElem?_getD, List.getElem?_append_right (by omega), Nat.add_sub_cancel_left, List.getD_eq_getElem?_getD]
theorem AtL.app {f : Nat → Int} {p q : Nat} {A B : List Int} (h : AtL f p (A ++ B)) (hq : q = p + A.length) : AtL f p A ∧ AtL f q B := by subst hq; exact ⟨h.left, h.right⟩
theorem atL_put2 {f : Nat → Int} {p : Nat} {x : Int} (h : AtL f p (putL x 2)) : numAt f p 2 = x % 65536 := by
  have h0 := h 0 (by simp [putL])
  have h1 := h 1 (by simp [putL])
  simp only [putL, List.getD_eq_getElem?_getD, List.getElem?_map, Nat.add_zero] at h0 h1
  simp at h0 h1
  simp only [numAt, Nat.add_zero, h0, h1, byteOf, Nat.reduceSub, Nat.reduceMul, Int.reducePow]
  omega
theorem atL_put1 {f : Nat → Int} {p : Nat} {x : Int} (h : AtL f p (putL x 1)) : numAt f p 1 = x % 256 := by
  have h0 := h 0 (by simp [putL])
  simp only [putL, List.getD_eq_getElem?_getD, List.getElem?_map, Nat.add_zero] at h0
  simp at h0
  simp only [numAt, Nat.add_zero, h0, byteOf, Nat.reduceSub, Nat.reduceMul, Int.reducePow]
  omega
def Sh (v : Int) : Prop := -32768 ≤ v ∧ v ≤ 32767
instance (v : Int) : Decidable (Sh v) := by unfold Sh; infer_instance
theorem atL_s2 {f : Nat → Int} {p : Nat} {x : Int} (h : AtL f p (putL x 2)) (hx : Sh x) : sgn 2 (numAt f p 2) = x := by
  rw [atL_put2 h]; exact sgn_mod hx
theorem atL_s1 {f : Nat → Int} {p : Nat} {x : Int} (h : AtL f p (putL x 1)) (hx : -128 ≤ x ∧ x ≤ 127) : sgn 1 (numAt f p 1) = x := by
  rw [atL_put1 h]; unfold sgn; simp only [Int.reducePow]; split <;> omega

/-- A part: a glyph's number, where it is moved to, and its four numbers. -/
structure Pt8 where
  (g x y m0 m1 m2 m3 : Int)
deriving DecidableEq
def P8Ok (p : Pt8) : Prop := (0 ≤ p.g ∧ p.g ≤ 65535) ∧ Sh p.x ∧ Sh p.y ∧ Sh p.m0 ∧ Sh p.m1 ∧ Sh p.m2 ∧ Sh p.m3
instance (p : Pt8) : Decidable (P8Ok p) := by unfold P8Ok; infer_instance
def turnF (p : Pt8) : Int := if p.m1 ≠ 0 ∨ p.m2 ≠ 0 then 128 else if p.m0 ≠ p.m3 then 64 else if p.m0 ≠ 16384 then 8 else 0
def turnN (p : Pt8) : List Int := if p.m1 ≠ 0 ∨ p.m2 ≠ 0 then [p.m0, p.m1, p.m2, p.m3] else if p.m0 ≠ p.m3 then [p.m0, p.m3] else if p.m0 ≠ 16384 then [p.m0] else []
def Wide8 (p : Pt8) : Prop := p.x < -128 ∨ 127 < p.x ∨ p.y < -128 ∨ 127 < p.y
instance (p : Pt8) : Decidable (Wide8 p) := by unfold Wide8; infer_instance
def wid8 (p : Pt8) : Nat := if Wide8 p then 2 else 1
def flag8 (p : Pt8) (t : Int) : Int := turnF p + 2 + (if Wide8 p then 1 else 0) + t
def nums8 (l : List Int) : List Int := l.flatMap (fun x => putL x 2)
def part8 (p : Pt8) (t : Int) : List Int := putL (flag8 p t) 2 ++ (putL p.g 2 ++ (putL p.x (wid8 p) ++ (putL p.y (wid8 p) ++ nums8 (turnN p))))
def tail8 (r : List Pt8) (hc : Bool) : Int := if r = [] then (if hc then 256 else 0) else 32
def parts8 (hc : Bool) : List Pt8 → List Int
  | [] => []
  | p :: r => part8 p (tail8 r hc) ++ parts8 hc r
def code8 (c : List Int) : List Int := if c = [] then [] else putL c.length 2 ++ c
def wrB8 (L : List Pt8) (c box : List Int) : List Int := putL (-1) 2 ++ (nums8 box ++ (parts8 (!c.isEmpty) L ++ code8 c))
def wrE8 (L : List Pt8) (c box : List Int) : Int := if L = [] then 4 else if 64 < L.length ∨ 65535 < c.length then 7 else if (∀ v ∈ box, Sh v) ∧ ∀ p ∈ L, P8Ok p then 0 else 6

def Has8 (fl b : Int) : Prop := fl / b % 2 = 1
instance (fl b : Int) : Decidable (Has8 fl b) := by unfold Has8; infer_instance
def wd8 (fl : Int) : Nat := if Has8 fl 1 then 2 else 1
def nm8 (fl : Int) : Nat := if Has8 fl 8 then 1 else if Has8 fl 64 then 2 else if Has8 fl 128 then 4 else 0
def sz8 (fl : Int) : Nat := 4 + 2 * wd8 fl + 2 * nm8 fl
def s2 (f : Nat → Int) (p : Nat) : Int := sgn 2 (numAt f p 2)
def fl8 (f : Nat → Int) (p : Nat) : Int := numAt f p 2
def pt8 (f : Nat → Int) (p : Nat) : Pt8 :=
  let w := wd8 (fl8 f p); let q := p + 4 + 2 * w; let k := nm8 (fl8 f p)
  ⟨numAt f (p + 2) 2, sgn w (numAt f (p + 4) w), sgn w (numAt f (p + 4 + w) w), if k = 0 then 16384 else s2 f q, if k = 4 then s2 f (q + 2) else 0, if k = 4 then s2 f (q + 4) else 0,
    if k = 0 then 16384 else if k = 1 then s2 f q else if k = 2 then s2 f (q + 2) else s2 f (q + 6)⟩
def pe8 (f : Nat → Int) (n p : Nat) : Int := if n < p + 4 then 3 else if ¬ Has8 (fl8 f p) 2 then 9 else if n < p + sz8 (fl8 f p) then 3 else 0
structure Rd8 where
  (e : Int) (L : List Pt8) (p : Nat) (fl : Int)
def rdGo (f : Nat → Int) (n : Nat) : Nat → Nat → Rd8
  | 0, p => if pe8 f n p ≠ 0 then ⟨pe8 f n p, [], 0, 0⟩ else if Has8 (fl8 f p) 32 then ⟨7, [], 0, 0⟩ else ⟨0, [pt8 f p], p + sz8 (fl8 f p), fl8 f p⟩
  | k + 1, p => if pe8 f n p ≠ 0 then ⟨pe8 f n p, [], 0, 0⟩ else if Has8 (fl8 f p) 32 then
      (if (rdGo f n k (p + sz8 (fl8 f p))).e ≠ 0 then ⟨(rdGo f n k (p + sz8 (fl8 f p))).e, [], 0, 0⟩ else ⟨0, pt8 f p :: (rdGo f n k (p + sz8 (fl8 f p))).L, (rdGo f n k (p + sz8 (fl8 f p))).p, (rdGo f n k (p + sz8 (fl8 f p))).fl⟩)
      else ⟨0, [pt8 f p], p + sz8 (fl8 f p), fl8 f p⟩
structure An8 where
  (e : Int) (L : List Pt8) (s m : Nat)
/-- What is answered where the parts are read. -/
def fin8 (f : Nat → Int) (n : Nat) (r : Rd8) : An8 :=
  if r.e ≠ 0 then ⟨r.e, [], 0, 0⟩ else if ¬ Has8 r.fl 256 then ⟨0, r.L, 0, 0⟩ else if n < r.p + 2 then ⟨3, [], 0, 0⟩ else if (n : Int) < r.p + 2 + fl8 f r.p then ⟨3, [], 0, 0⟩ else ⟨0, r.L, r.p + 2, (fl8 f r.p).toNat⟩
def rdAns8 (f : Nat → Int) (n : Nat) : An8 := if n < 10 then ⟨3, [], 0, 0⟩ else if 0 ≤ s2 f 0 then ⟨11, [], 0, 0⟩ else fin8 f n (rdGo f n 63 10)

/-- A part that was written is read. -/
theorem turn_cases (p : Pt8) : (turnF p = 128 ∧ turnN p = [p.m0, p.m1, p.m2, p.m3]) ∨ (turnF p = 64 ∧ turnN p = [p.m0, p.m3] ∧ p.m1 = 0 ∧ p.m2 = 0) ∨ (turnF p = 8 ∧ turnN p = [p.m0] ∧ p.m1 = 0 ∧ p.m2 = 0 ∧ p.m3 = p.m0) ∨ (turnF p = 0 ∧ turnN p = [] ∧ p.m0 = 16384 ∧ p.m1 = 0 ∧ p.m2 = 0 ∧ p.m3 = 16384) := by
  unfold turnF turnN
  by_cases h : p.m1 ≠ 0 ∨ p.m2 ≠ 0
  · rw [if_pos h, if_pos h]; exact .inl ⟨rfl, rfl⟩
  · rw [if_neg h, if_neg h]
    by_cases h2 : p.m0 ≠ p.m3
    · rw [if_pos h2, if_pos h2]; exact .inr (.inl ⟨rfl, rfl, by omega, by omega⟩)
    · rw [if_neg h2, if_neg h2]
      by_cases h3 : p.m0 ≠ 16384
      · rw [if_pos h3, if_pos h3]; exact .inr (.inr (.inl ⟨rfl, rfl, by omega, by omega, by omega⟩))
      · rw [if_neg h3, if_neg h3]; exact .inr (.inr (.inr ⟨rfl, rfl, by omega, by omega, by omega, by omega⟩))
theorem flag_bits (p : Pt8) (t : Int) (ht : t = 0 ∨ t = 32 ∨ t = 256) : (0 ≤ flag8 p t ∧ flag8 p t < 65536) ∧ Has8 (flag8 p t) 2 ∧ (Has8 (flag8 p t) 32 ↔ t = 32) ∧ (Has8 (flag8 p t) 256 ↔ t = 256) ∧ wd8 (flag8 p t) = wid8 p ∧ nm8 (flag8 p t) = (turnN p).length := by
  unfold wd8 nm8 Has8 flag8 wid8
  rcases turn_cases p with ⟨h1, h2⟩ | ⟨h1, h2, _⟩ | ⟨h1, h2, _⟩ | ⟨h1, h2, _⟩ <;> rw [h1, h2] <;> by_cases hw : Wide8 p <;> simp only [hw, if_true, if_false] <;> rcases ht with rfl | rfl | rfl <;> (simp only [List.length_cons, List.length_nil]; decide)
theorem nums8_len (l : List Int) : (nums8 l).length = 2 * l.length := by
  induction l with
  | nil => rfl
  | cons a l ih => simp only [nums8, List.flatMap_cons, List.length_append, List.length_cons, putL_len] at ih ⊢; omega
theorem part8_len (p : Pt8) (t : Int) : (part8 p t).length = 4 + 2 * wid8 p + 2 * (turnN p).length := by
  unfold part8; simp only [List.length_append, putL_len, nums8_len]; omega
theorem fl_read {f : Nat → Int} {q : Nat} {p : Pt8} {t : Int} (ht : t = 0 ∨ t = 32 ∨ t = 256) (h : AtL f q (part8 p t)) : fl8 f q = flag8 p t := by
  have h0 := atL_put2 h.left
  have hb := (flag_bits p t ht).1
  unfold fl8; rw [h0]; omega
theorem sz_read {p : Pt8} {t : Int} (ht : t = 0 ∨ t = 32 ∨ t = 256) : sz8 (flag8 p t) = (part8 p t).length := by
  obtain ⟨_, _, _, _, h5, h6⟩ := flag_bits p t ht
  rw [part8_len]; unfold sz8; rw [h5, h6]
theorem pt_read {f : Nat → Int} {q : Nat} {p : Pt8} {t : Int} (ht : t = 0 ∨ t = 32 ∨ t = 256) (hp : P8Ok p) (h : AtL f q (part8 p t)) : pt8 f q = p := by
  have hfl := fl_read ht h
  obtain ⟨hg, hx, hy, k0, k1, k2, k3⟩ := hp
  obtain ⟨_, _, _, _, h5, h6⟩ := flag_bits p t ht
  unfold part8 at h
  have g := h.right.left
  have gx := h.right.right.left
  have gy := h.right.right.right.left
  have gm := h.right.right.right.right
  simp only [putL_len] at g gx gy gm
  rw [show q + 2 + 2 = q + 4 by omega] at gx gy gm
  have eg : numAt f (q + 2) 2 = p.g := by rw [atL_put2 g]; omega
  have ex : sgn (wid8 p) (numAt f (q + 4) (wid8 p)) = p.x := by
    unfold wid8 at gx ⊢
    by_cases hw : Wide8 p
    · simp only [hw, if_true] at gx ⊢; exact atL_s2 gx hx
    · simp only [hw, if_false] at gx ⊢; unfold Wide8 at hw; exact atL_s1 gx (by omega)
  have ey : sgn (wid8 p) (numAt f (q + 4 + wid8 p) (wid8 p)) = p.y := by
    unfold wid8 at gy ⊢
    by_cases hw : Wide8 p
    · simp only [hw, if_true] at gy ⊢; exact atL_s2 gy hy
    · simp only [hw, if_false] at gy ⊢; unfold Wide8 at hw; exact atL_s1 gy (by omega)
  rw [show q + 4 + wid8 p + wid8 p = q + 4 + 2 * wid8 p by omega] at gm
  unfold pt8
  rw [hfl, h5, h6]
  dsimp only
  rw [eg, ex, ey]
  obtain ⟨pg, px, py, a0, a1, a2, a3⟩ := p
  simp only at *
  rcases turn_cases ⟨pg, px, py, a0, a1, a2, a3⟩ with ⟨_, h2⟩ | ⟨_, h2, e1, e2⟩ | ⟨_, h2, e1, e2, e3⟩ | ⟨_, h2, e0, e1, e2, e3⟩ <;> rw [h2] at gm ⊢
  · have m0 := atL_s2 (x := a0) gm.left k0
    have m1 := atL_s2 (x := a1) gm.right.left k1
    have m2 := atL_s2 (x := a2) gm.right.right.left k2
    have m3 := atL_s2 (x := a3) gm.right.right.right.left k3
    simp only [putL_len, Nat.add_assoc, Nat.reduceAdd] at m0 m1 m2 m3
    simp [s2, Nat.add_assoc, m0, m1, m2, m3]
  · simp only at e1 e2
    subst e1 e2
    have m0 := atL_s2 (x := a0) gm.left k0
    have m3 := atL_s2 (x := a3) gm.right.left k3
    simp only [putL_len, Nat.add_assoc] at m0 m3
    simp [s2, Nat.add_assoc, m0, m3]
  · simp only at e1 e2 e3
    subst e1 e2 e3
    have m0 := atL_s2 (x := a3) gm.left k0
    simp only [Nat.add_assoc] at m0
    simp [s2, Nat.add_assoc, m0]
  · simp only at e0 e1 e2 e3
    simp [e0, e1, e2, e3]
theorem pe_read {f : Nat → Int} {n q : Nat} {p : Pt8} {t : Int} (ht : t = 0 ∨ t = 32 ∨ t = 256) (h : AtL f q (part8 p t)) : pe8 f n q = if n < q + (part8 p t).length then 3 else 0 := by
  have hfl := fl_read ht h
  have hb := (flag_bits p t ht).2.1
  unfold pe8
  rw [hfl, sz_read ht]
  have hl : 4 ≤ (part8 p t).length := by rw [part8_len]; omega
  by_cases h1 : n < q + 4
  · rw [if_pos h1, if_pos (by omega)]
  · rw [if_neg h1, if_neg (by simp [hb])]
theorem tail8_or (r : List Pt8) (hc : Bool) : tail8 r hc = 0 ∨ tail8 r hc = 32 ∨ tail8 r hc = 256 := by
  unfold tail8; cases r <;> cases hc <;> simp
/-- Parts that were written are read; where bytes lack, ErrShort. -/
theorem go_read (f : Nat → Int) (n : Nat) (hc : Bool) : ∀ (L : List Pt8) (k q : Nat), L ≠ [] → L.length ≤ k + 1 → (∀ p ∈ L, P8Ok p) → AtL f q (parts8 hc L) →
    (q + (parts8 hc L).length ≤ n → (rdGo f n k q).e = 0 ∧ (rdGo f n k q).L = L ∧ (rdGo f n k q).p = q + (parts8 hc L).length ∧ (Has8 (rdGo f n k q).fl 256 ↔ hc = true)) ∧ (n < q + (parts8 hc L).length → (rdGo f n k q).e = 3)
  | [], k, q, h0, _, _, _ => absurd rfl h0
  | p :: r, k, q, _, hk, hok, hat => by
    have ht := tail8_or r hc
    unfold parts8 at hat ⊢
    have hp : P8Ok p := hok p (by simp)
    have hfl := fl_read ht hat.left
    have hpt := pt_read ht hp hat.left
    have hpe := pe_read (n := n) ht hat.left
    have hsz := sz_read (p := p) ht
    obtain ⟨_, _, b32, b256, _⟩ := flag_bits p (tail8 r hc) ht
    rw [List.length_append]
    have hlen : q + sz8 (fl8 f q) = q + (part8 p (tail8 r hc)).length := by rw [hfl, hsz]
    cases r with
    | nil =>
      have e32 : ¬ Has8 (fl8 f q) 32 := by rw [hfl, b32]; unfold tail8; cases hc <;> simp
      have e256 : Has8 (fl8 f q) 256 ↔ hc = true := by rw [hfl, b256]; unfold tail8; cases hc <;> simp
      have e0 : (parts8 hc []).length = 0 := rfl
      rw [e0, Nat.add_zero]
      refine ⟨fun hn => ?_, fun hn => ?_⟩
      · have e1 : pe8 f n q = 0 := by rw [hpe, if_neg (by omega)]
        cases k <;> (unfold rdGo; rw [if_neg (by simp [e1]), if_neg e32]; exact ⟨rfl, by rw [hpt], hlen, e256⟩)
      · have e1 : pe8 f n q = 3 := by rw [hpe, if_pos (by omega)]
        cases k <;> (unfold rdGo; rw [if_pos (by simp [e1])]; exact e1)
    | cons p2 r2 =>
      have e32 : Has8 (fl8 f q) 32 := by rw [hfl, b32]; unfold tail8; simp
      have hk' : 1 ≤ k := by simp at hk; omega
      obtain ⟨k', rfl⟩ : ∃ k', k = k' + 1 := ⟨k - 1, by omega⟩
      have ih := go_read f n hc (p2 :: r2) k' (q + (part8 p (tail8 (p2 :: r2) hc)).length) (by simp) (by simp at hk ⊢; omega) (fun x hx => hok x (by simp [hx])) hat.right
      rw [Nat.add_assoc] at ih
      refine ⟨fun hn => ?_, fun hn => ?_⟩
      · have e1 : pe8 f n q = 0 := by rw [hpe, if_neg (by omega)]
        obtain ⟨i1, i2, i3, i4⟩ := ih.1 hn
        unfold rdGo
        rw [if_neg (by simp [e1]), if_pos e32, hlen, if_neg (by simp [i1])]
        exact ⟨rfl, by rw [hpt, i2], i3, i4⟩
      · by_cases h1 : n < q + (part8 p (tail8 (p2 :: r2) hc)).length
        · have e1 : pe8 f n q = 3 := by rw [hpe, if_pos (by omega)]
          unfold rdGo
          rw [if_pos (by simp [e1])]
          exact e1
        · have e1 : pe8 f n q = 0 := by rw [hpe, if_neg (by omega)]
          have i1 := ih.2 hn
          unfold rdGo
          rw [if_neg (by simp [e1]), if_pos e32, hlen, if_pos (by simp [i1])]
          exact i1
/-- What is written is read, whatever stands behind; and what lacks bytes is ErrShort. -/
theorem back8 (f : Nat → Int) (n : Nat) (L : List Pt8) (c box : List Int) (hb : box.length = 4) (h0 : wrE8 L c box = 0) (hat : AtL f 0 (wrB8 L c box)) :
    ((wrB8 L c box).length ≤ n → (rdAns8 f n).e = 0 ∧ (rdAns8 f n).L = L ∧ (rdAns8 f n).m = c.length ∧ ∀ j, j < c.length → f ((rdAns8 f n).s + j) = c.getD j 0) ∧ (n < (wrB8 L c box).length → rdAns8 f n = ⟨3, [], 0, 0⟩) := by
  unfold wrE8 at h0
  have hL : L ≠ [] := fun e => by rw [if_pos e] at h0; omega
  rw [if_neg hL] at h0
  have hlen : ¬ (64 < L.length ∨ 65535 < c.length) := fun e => by rw [if_pos e] at h0; omega
  rw [if_neg hlen] at h0
  have hok : (∀ v ∈ box, Sh v) ∧ ∀ p ∈ L, P8Ok p := Decidable.byContradiction fun e => by rw [if_neg e] at h0; omega
  unfold wrB8 at hat ⊢
  have a0 := hat.left
  have ap := hat.right.right.left
  have ac := hat.right.right.right
  simp only [putL_len, nums8_len, hb, Nat.zero_add, Nat.reduceMul, Nat.reduceAdd] at ap ac
  simp only [List.length_append, putL_len, nums8_len, hb]
  have hneg : ¬ 0 ≤ s2 f 0 := by
    unfold s2; rw [atL_s2 a0 (by unfold Sh; omega)]; omega
  have hgo := go_read f n (!c.isEmpty) L 63 10 hL (by omega) hok.2 ap
  unfold rdAns8
  refine ⟨fun hn => ?_, fun hn => ?_⟩
  · rw [if_neg (by omega), if_neg hneg]
    obtain ⟨r1, r2, r3, r4⟩ := hgo.1 (by omega)
    unfold fin8
    rw [if_neg (by simp [r1])]
    by_cases hc : c = []
    · subst hc
      rw [if_pos (by rw [r4]; simp)]
      exact ⟨rfl, r2, rfl, fun j hj => absurd hj (by simp)⟩
    · rw [if_neg (by rw [r4]; simp [hc]), r3]
      unfold code8 at ac hn
      rw [if_neg hc] at ac hn
      rw [List.length_append, putL_len] at hn
      have e2 : fl8 f (10 + (parts8 (!c.isEmpty) L).length) = c.length := by
        unfold fl8; rw [atL_put2 ac.left]; omega
      rw [if_neg (by omega), e2, if_neg (by omega)]
      have ac2 := ac.right
      rw [putL_len] at ac2
      exact ⟨rfl, r2, by simp, ac2⟩
  · by_cases h10 : n < 10
    · rw [if_pos h10]
    · rw [if_neg h10, if_neg hneg]
      unfold fin8
      by_cases hp : n < 10 + (parts8 (!c.isEmpty) L).length
      · have r1 := hgo.2 hp
        rw [if_pos (by simp [r1]), r1]
      · obtain ⟨r1, r2, r3, r4⟩ := hgo.1 (by omega)
        rw [if_neg (by simp [r1])]
        have hc : c ≠ [] := fun e => by
          have e0 : (code8 c).length = 0 := by rw [e]; rfl
          omega
        rw [if_neg (by rw [r4]; simp [hc]), r3]
        unfold code8 at ac hn
        rw [if_neg hc] at ac hn
        rw [List.length_append, putL_len] at hn
        by_cases h2 : n < 10 + (parts8 (!c.isEmpty) L).length + 2
        · rw [if_pos h2]
        · have e2 : fl8 f (10 + (parts8 (!c.isEmpty) L).length) = c.length := by
            unfold fl8; rw [atL_put2 ac.left]; omega
          rw [if_neg h2, e2, if_pos (by omega)]

/-- Whatever is read may be written. -/
theorem s2_sh {f : Nat → Int} {n p : Nat} (hf : ∀ j, j < n → 0 ≤ f j ∧ f j ≤ 255) (h : p + 2 ≤ n) : Sh (s2 f p) := by
  have hr := numAt_range (f := f) (p := p) (k := 2) (fun j hj => hf j (by omega))
  unfold Sh s2 sgn; simp only [Int.reducePow] at hr ⊢; split <;> omega
theorem s1_sh {f : Nat → Int} {n p : Nat} (hf : ∀ j, j < n → 0 ≤ f j ∧ f j ≤ 255) (h : p + 1 ≤ n) : Sh (sgn 1 (numAt f p 1)) := by
  have hr := numAt_range (f := f) (p := p) (k := 1) (fun j hj => hf j (by omega))
  unfold Sh sgn; simp only [Int.reducePow] at hr ⊢; split <;> omega
theorem pt8_ok {f : Nat → Int} {n p : Nat} (hf : ∀ j, j < n → 0 ≤ f j ∧ f j ≤ 255) (h : pe8 f n p = 0) : P8Ok (pt8 f p) := by
  unfold pe8 at h
  have h1 : ¬ n < p + 4 := fun e => by rw [if_pos e] at h; omega
  rw [if_neg h1] at h
  have h2 : Has8 (fl8 f p) 2 := Decidable.byContradiction fun e => by rw [if_pos e] at h; omega
  rw [if_neg (by simp [h2])] at h
  have h3 : ¬ n < p + sz8 (fl8 f p) := fun e => by rw [if_pos e] at h; omega
  have hr := numAt_range (f := f) (p := p + 2) (k := 2) (fun j hj => hf j (by omega))
  simp only [Int.reducePow] at hr
  unfold sz8 at h3
  have hw : wd8 (fl8 f p) = 1 ∨ wd8 (fl8 f p) = 2 := by unfold wd8; split <;> omega
  have hk : nm8 (fl8 f p) = 0 ∨ nm8 (fl8 f p) = 1 ∨ nm8 (fl8 f p) = 2 ∨ nm8 (fl8 f p) = 4 := by unfold nm8; split <;> (try split) <;> (try split) <;> omega
  have z : Sh 0 := by unfold Sh; omega
  have u : Sh 16384 := by unfold Sh; omega
  unfold P8Ok pt8
  generalize wd8 (fl8 f p) = w at *
  generalize nm8 (fl8 f p) = k at *
  refine ⟨by simp only; omega, ?_, ?_, ?_⟩
  · rcases hw with rfl | rfl
    · exact s1_sh hf (by omega)
    · exact s2_sh hf (by omega)
  · rcases hw with rfl | rfl
    · exact s1_sh hf (by omega)
    · exact s2_sh hf (by omega)
  · rcases hk with rfl | rfl | rfl | rfl <;> simp only [Nat.reduceEqDiff, if_true, if_false, Nat.one_ne_zero, Nat.zero_ne_one]
    · exact ⟨u, z, z, u⟩
    · exact ⟨s2_sh hf (by omega), z, z, s2_sh hf (by omega)⟩
    · exact ⟨s2_sh hf (by omega), z, z, s2_sh hf (by omega)⟩
    · exact ⟨s2_sh hf (by omega), s2_sh hf (by omega), s2_sh hf (by omega), s2_sh hf (by omega)⟩
theorem go_ok {f : Nat → Int} {n : Nat} (hf : ∀ j, j < n → 0 ≤ f j ∧ f j ≤ 255) : ∀ (k p : Nat), (rdGo f n k p).e = 0 → (rdGo f n k p).L ≠ [] ∧ (rdGo f n k p).L.length ≤ k + 1 ∧ ∀ x ∈ (rdGo f n k p).L, P8Ok x
  | 0, p, h => by
    unfold rdGo at h ⊢
    by_cases h1 : pe8 f n p ≠ 0
    · rw [if_pos h1] at h; exact absurd h h1
    · rw [if_neg h1] at h ⊢
      by_cases h2 : Has8 (fl8 f p) 32
      · rw [if_pos h2] at h; simp at h
      · rw [if_neg h2]
        refine ⟨by simp, by simp, fun x hx => ?_⟩
        simp only [List.mem_cons, List.not_mem_nil, or_false] at hx
        subst hx
        exact pt8_ok hf (by omega)
  | k + 1, p, h => by
    have ih := go_ok hf k (p + sz8 (fl8 f p))
    unfold rdGo at h ⊢
    by_cases h1 : pe8 f n p ≠ 0
    · rw [if_pos h1] at h; exact absurd h h1
    · rw [if_neg h1] at h ⊢
      have hp := pt8_ok hf (show pe8 f n p = 0 by omega)
      by_cases h2 : Has8 (fl8 f p) 32
      · rw [if_pos h2] at h ⊢
        by_cases h3 : (rdGo f n k (p + sz8 (fl8 f p))).e ≠ 0
        · rw [if_pos h3] at h; exact absurd h h3
        · rw [if_neg h3] at h ⊢
          obtain ⟨i1, i2, i3⟩ := ih (by omega)
          refine ⟨by simp, by simp only [List.length_cons]; omega, fun x hx => ?_⟩
          simp only [List.mem_cons] at hx
          rcases hx with rfl | hx
          · exact hp
          · exact i3 x hx
      · rw [if_neg h2]
        refine ⟨by simp, by simp, fun x hx => ?_⟩
        simp only [List.mem_cons, List.not_mem_nil, or_false] at hx
        subst hx
        exact hp
theorem ans_ok {f : Nat → Int} {n : Nat} (hf : ∀ j, j < n → 0 ≤ f j ∧ f j ≤ 255) (h : (rdAns8 f n).e = 0) : (rdAns8 f n).L ≠ [] ∧ (rdAns8 f n).L.length ≤ 64 ∧ (∀ x ∈ (rdAns8 f n).L, P8Ok x) ∧ (rdAns8 f n).m ≤ 65535 ∧ (rdAns8 f n).s + (rdAns8 f n).m ≤ n := by
  unfold rdAns8 at h ⊢
  by_cases h1 : n < 10
  · rw [if_pos h1] at h; simp at h
  · rw [if_neg h1] at h ⊢
    by_cases h2 : 0 ≤ s2 f 0
    · rw [if_pos h2] at h; simp at h
    · rw [if_neg h2] at h ⊢
      have hg := go_ok hf 63 10
      generalize rdGo f n 63 10 = r at *
      unfold fin8 at h ⊢
      by_cases h3 : r.e ≠ 0
      · rw [if_pos h3] at h; exact absurd h h3
      · rw [if_neg h3] at h ⊢
        obtain ⟨g1, g2, g3⟩ := hg (by omega)
        by_cases h4 : ¬ Has8 r.fl 256
        · rw [if_pos h4]; exact ⟨g1, g2, g3, by simp, by simp⟩
        · rw [if_neg h4] at h ⊢
          by_cases h5 : n < r.p + 2
          · rw [if_pos h5] at h; simp at h
          · rw [if_neg h5] at h ⊢
            have hr := numAt_range (f := f) (p := r.p) (k := 2) (fun j hj => hf j (by omega))
            simp only [Int.reducePow] at hr
            by_cases h6 : (n : Int) < r.p + 2 + fl8 f r.p
            · rw [if_pos h6] at h; simp at h
            · rw [if_neg h6]
              unfold fl8 at *
              exact ⟨g1, g2, g3, by simp only; omega, by simp only; omega⟩
theorem ans_no {f : Nat → Int} {n : Nat} (h : (rdAns8 f n).e ≠ 0) : (rdAns8 f n).L = [] ∧ (rdAns8 f n).m = 0 := by
  unfold rdAns8 at h ⊢
  by_cases h1 : n < 10
  · rw [if_pos h1]; exact ⟨rfl, rfl⟩
  · rw [if_neg h1] at h ⊢
    by_cases h2 : 0 ≤ s2 f 0
    · rw [if_pos h2]; exact ⟨rfl, rfl⟩
    · rw [if_neg h2] at h ⊢
      unfold fin8 at h ⊢
      generalize rdGo f n 63 10 = r at *
      by_cases h3 : r.e ≠ 0
      · rw [if_pos h3]; exact ⟨rfl, rfl⟩
      · rw [if_neg h3] at h ⊢
        by_cases h4 : ¬ Has8 r.fl 256
        · rw [if_pos h4] at h; simp at h
        · rw [if_neg h4] at h ⊢
          by_cases h5 : n < r.p + 2
          · rw [if_pos h5]; exact ⟨rfl, rfl⟩
          · rw [if_neg h5] at h ⊢
            by_cases h6 : (n : Int) < r.p + 2 + fl8 f r.p
            · rw [if_pos h6]; exact ⟨rfl, rfl⟩
            · rw [if_neg h6] at h; simp at h
end Go.Proofs.Ytcjjcjpkmjbfkaa

/-
  Layer 7: the packed bytes of flags and of steps as lists of numbers; that what is written is read, and that less of it is too short. No walk.
-/
namespace Go.Proofs.Ytcjjcjpkmjbfkaa
open Go.RowKit
set_option linter.unusedVariables false
set_option linter.unusedSimpArgs false

/-- How many at the front are f, at most k. -/
def run7 (f : Int) : Nat → List Int → Nat
  | 0, _ => 0
  | _ + 1, [] => 0
  | k + 1, g :: r => if g = f then run7 f k r + 1 else 0
theorem run7_le (f : Int) : ∀ (k : Nat) (l : List Int), run7 f k l ≤ k ∧ run7 f k l ≤ l.length := by
  intro k
  induction k with
  | zero => intro l; simp [run7]
  | succ k ih =>
    intro l
    cases l with
    | nil => simp [run7]
    | cons g r =>
      have := ih r
      unfold run7
      split <;> simp <;> omega
theorem run7_take (f : Int) : ∀ (k : Nat) (l : List Int), l.take (run7 f k l) = List.replicate (run7 f k l) f := by
  intro k
  induction k with
  | zero => intro l; simp [run7]
  | succ k ih =>
    intro l
    cases l with
    | nil => simp [run7]
    | cons g r =>
      unfold run7
      by_cases h : g = f
      · subst h
        rw [if_pos rfl, List.take_succ_cons, ih r, List.replicate_succ]
      · rw [if_neg h]; simp
/-- Flags packed: each row of the same ones once. -/
def rle7 : List Int → List Int
  | [] => []
  | f :: r => if run7 f 255 r = 0 then f :: rle7 r else (f + 8) :: (run7 f 255 r : Int) :: rle7 (r.drop (run7 f 255 r))
termination_by l => l.length
decreasing_by all_goals simp [List.length_drop]; try omega
/-- What they are when they are read. -/
def got7 : List Int → List Int
  | [] => []
  | f :: r => if run7 f 255 r = 0 then f :: got7 r else List.replicate (run7 f 255 r + 1) (f + 8) ++ got7 (r.drop (run7 f 255 r))
termination_by l => l.length
decreasing_by all_goals simp [List.length_drop]; try omega
theorem rle7_nil : rle7 [] = [] := by rw [rle7]
theorem got7_nil : got7 [] = [] := by rw [got7]
theorem rle7_cons (f : Int) (r : List Int) : rle7 (f :: r) = if run7 f 255 r = 0 then f :: rle7 r else (f + 8) :: (run7 f 255 r : Int) :: rle7 (r.drop (run7 f 255 r)) := by rw [rle7]
theorem got7_cons (f : Int) (r : List Int) : got7 (f :: r) = if run7 f 255 r = 0 then f :: got7 r else List.replicate (run7 f 255 r + 1) (f + 8) ++ got7 (r.drop (run7 f 255 r)) := by rw [got7]
theorem len7_ind {P : List Int → Prop} (h0 : P []) (h : ∀ f r, (∀ q : List Int, q.length ≤ r.length → P q) → P (f :: r)) : ∀ l, P l := by
  have k : ∀ (n : Nat) (l : List Int), l.length ≤ n → P l := by
    intro n
    induction n with
    | zero => intro l hl; cases l with
      | nil => exact h0
      | cons f r => simp at hl
    | succ n ih => intro l hl; cases l with
      | nil => exact h0
      | cons f r => exact h f r (fun q hq => ih q (by simp at hl; omega))
  exact fun l => k l.length l (Nat.le_refl _)
theorem got7_len : ∀ l : List Int, (got7 l).length = l.length := by
  refine len7_ind (by rw [got7_nil]) (fun f r ih => ?_)
  rw [got7_cons]
  have := run7_le f 255 r
  split
  · simp [ih r (Nat.le_refl _)]
  · rw [List.length_append, List.length_replicate, ih _ (by simp [List.length_drop]), List.length_drop, List.length_cons]; omega
/-- Packed, flags need no more bytes than there are flags; and some. -/
theorem rle7_len : ∀ l : List Int, (rle7 l).length ≤ l.length ∧ (l ≠ [] → 0 < (rle7 l).length) := by
  refine len7_ind (by rw [rle7_nil]; simp) (fun f r ih => ?_)
  rw [rle7_cons]
  have hr := run7_le f 255 r
  split
  · have := (ih r (Nat.le_refl _)).1
    simp; omega
  · have := (ih (r.drop (run7 f 255 r)) (by simp [List.length_drop])).1
    rw [List.length_drop] at this
    simp; omega
/-- A flag that is read is the one that was written, but for the bit of the row. -/
def AsFl (g f : Int) : Prop := g = f ∨ g = f + 8
theorem got7_as : ∀ l : List Int, ∀ j, j < l.length → AsFl ((got7 l).getD j 0) (l.getD j 0) := by
  refine len7_ind (by intro j hj; simp at hj) (fun f r ih => ?_)
  intro j hj
  rw [got7_cons]
  have hr := run7_le f 255 r
  have ht := run7_take f 255 r
  split
  · rename_i h0
    cases j with
    | zero => exact .inl rfl
    | succ j => exact ih r (Nat.le_refl _) j (by simpa using hj)
  · rename_i h0
    generalize run7 f 255 r = k at *
    by_cases hjk : j < k + 1
    · rw [List.getD_eq_getElem?_getD, List.getElem?_append_left (by simpa using hjk), List.getElem?_replicate, if_pos hjk]
      cases j with
      | zero => exact .inr rfl
      | succ j =>
        have e : (f :: r).getD (j + 1) 0 = f := by
          rw [List.getD_cons_succ, List.getD_eq_getElem?_getD, ← List.getElem?_take_of_lt (by omega : j < k), ht, List.getElem?_replicate, if_pos (by omega)]; rfl
        rw [e]; exact .inr rfl
    · obtain ⟨i, rfl⟩ : ∃ i, j = k + 1 + i := ⟨j - (k + 1), by omega⟩
      have hi := ih (r.drop k) (by simp [List.length_drop]) i (by simp [List.length_drop] at hj ⊢; omega)
      rw [List.getD_eq_getElem?_getD, List.getElem?_append_right (by simp), List.length_replicate, Nat.add_sub_cancel_left, ← List.getD_eq_getElem?_getD]
      have e : (f :: r).getD (k + 1 + i) 0 = (r.drop k).getD i 0 := by
        rw [show k + 1 + i = (k + i) + 1 by omega, List.getD_cons_succ, List.getD_eq_getElem?_getD, List.getD_eq_getElem?_getD, List.getElem?_drop]
      rw [e]; exact hi

/-- Flags as they are read: m more of them from p on, of n bytes. -/
structure Fl7 where
  (e : Int) (L : List Int) (p : Nat)
def flGo (f : Nat → Int) (n : Nat) : Nat → Nat → Nat → Fl7
  | 0, _, p => ⟨0, [], p⟩
  | _ + 1, 0, p => ⟨0, [], p⟩
  | k + 1, m + 1, p =>
    if n < p + 1 then ⟨3, [], 0⟩
    else if Has8 (f p) 8 then
      if n < p + 2 then ⟨3, [], 0⟩
      else if (m : Int) < f (p + 1) then ⟨4, [], 0⟩
      else if (flGo f n k (m - (f (p + 1)).toNat) (p + 2)).e ≠ 0 then ⟨(flGo f n k (m - (f (p + 1)).toNat) (p + 2)).e, [], 0⟩
      else ⟨0, List.replicate ((f (p + 1)).toNat + 1) (f p) ++ (flGo f n k (m - (f (p + 1)).toNat) (p + 2)).L, (flGo f n k (m - (f (p + 1)).toNat) (p + 2)).p⟩
    else if (flGo f n k m (p + 1)).e ≠ 0 then ⟨(flGo f n k m (p + 1)).e, [], 0⟩
    else ⟨0, f p :: (flGo f n k m (p + 1)).L, (flGo f n k m (p + 1)).p⟩
/-- A flag that may be written: the bit of the row is not set. -/
def FlOk (f : Int) : Prop := 0 ≤ f ∧ f < 256 ∧ ¬ Has8 f 8
theorem has8_add {f : Int} (h : FlOk f) : Has8 (f + 8) 8 := by
  obtain ⟨h0, h1, h2⟩ := h
  unfold Has8 at h2 ⊢; omega
theorem fl_back (f : Nat → Int) (n : Nat) : ∀ l : List Int, (∀ g ∈ l, FlOk g) → ∀ (k p : Nat), l.length ≤ k → AtL f p (rle7 l) →
    (p + (rle7 l).length ≤ n → flGo f n k l.length p = ⟨0, got7 l, p + (rle7 l).length⟩) ∧ (p ≤ n → n < p + (rle7 l).length → (flGo f n k l.length p).e = 3) := by
  refine len7_ind ?_ (fun g r ih => ?_)
  · intro _ k p _ _
    rw [rle7_nil, got7_nil]
    exact ⟨fun _ => by cases k <;> rfl, fun h1 h2 => absurd h2 (by simpa using h1)⟩
  · intro hok k p hk hat
    have hg := hok g (by simp)
    obtain ⟨k, rfl⟩ : ∃ q, k = q + 1 := ⟨k - 1, by simp at hk; omega⟩
    have hr := run7_le g 255 r
    rw [rle7_cons] at hat ⊢
    rw [got7_cons]
    have hk' : r.length ≤ k := by simpa using hk
    by_cases h0 : run7 g 255 r = 0
    · rw [if_pos h0] at hat ⊢
      rw [if_pos h0]
      have e0 : f p = g := by have := hat 0 (by simp); simpa using this
      have hat' : AtL f (p + 1) (rle7 r) := (AtL.app (A := [g]) (by simpa using hat) rfl).2
      obtain ⟨i1, i2⟩ := ih r (Nat.le_refl _) (fun x hx => hok x (by simp [hx])) k (p + 1) hk' hat'
      have hn8 := hg.2.2
      rw [List.length_cons, List.length_cons]
      constructor
      · intro hn
        have := i1 (by omega)
        unfold flGo
        rw [if_neg (by omega), e0, if_neg hn8, this]
        simp; omega
      · intro hpn hn
        unfold flGo
        by_cases h1 : n < p + 1
        · rw [if_pos h1]
        · have := i2 (by omega) (by omega)
          rw [if_neg h1, e0, if_neg hn8, this]
          simp
    · rw [if_neg h0] at hat ⊢
      rw [if_neg h0]
      generalize run7 g 255 r = j at *
      have e0 : f p = g + 8 := by have := hat 0 (by simp); simpa using this
      have e1 : f (p + 1) = (j : Int) := by have := hat 1 (by simp); simpa using this
      have hat' : AtL f (p + 2) (rle7 (r.drop j)) := (AtL.app (A := [g + 8, (j : Int)]) (by simpa using hat) rfl).2
      have hl : (r.drop j).length = r.length - j := List.length_drop ..
      obtain ⟨i1, i2⟩ := ih (r.drop j) (by omega) (fun x hx => hok x (by simp [List.mem_of_mem_drop hx])) k (p + 2) (by omega) hat'
      rw [hl] at i1 i2
      have h8 := has8_add hg
      rw [List.length_cons, List.length_cons, List.length_cons]
      constructor
      · intro hn
        have := i1 (by omega)
        unfold flGo
        rw [if_neg (by omega), e0, if_pos h8, if_neg (by omega), e1, if_neg (by omega), Int.toNat_natCast, this]
        simp; omega
      · intro hpn hn
        unfold flGo
        by_cases h1 : n < p + 1
        · rw [if_pos h1]
        · by_cases h2 : n < p + 2
          · rw [if_neg h1, e0, if_pos h8, if_pos h2]
          · have := i2 (by omega) (by omega)
            rw [if_neg h1, e0, if_pos h8, if_neg h2, e1, if_neg (by omega), Int.toNat_natCast, this]
            simp

/-- A step: its bytes, and the bits that say so. -/
def stp7 (d : Int) : List Int := if d = 0 then [] else if 0 < d ∧ d < 256 then [d] else if -256 < d ∧ d < 0 then [-d] else putL d 2
def sfl7 (is sm d : Int) : Int := if d = 0 then sm else if 0 < d ∧ d < 256 then is + sm else if -256 < d ∧ d < 0 then is else 0
/-- Numbers as steps from the last one. -/
def stps7 (v : Int) : List Int → List Int
  | [] => []
  | x :: r => stp7 (x - v) ++ stps7 x r
theorem stp7_le (d : Int) : (stp7 d).length ≤ 2 := by
  unfold stp7
  split
  · simp
  · split
    · simp
    · split
      · simp
      · simp [putL_len]
theorem stps7_le : ∀ (l : List Int) (v : Int), (stps7 v l).length ≤ 2 * l.length := by
  intro l
  induction l with
  | nil => intro v; simp [stps7]
  | cons x r ih =>
    intro v
    have h1 := ih x
    have h2 := stp7_le (x - v)
    unfold stps7
    rw [List.length_append, List.length_cons]; omega
/-- The width of the step that a flag tells, and the step. -/
def sw7 (is sm g : Int) : Nat := if Has8 g is then 1 else if Has8 g sm then 0 else 2
def sv7 (f : Nat → Int) (is sm g : Int) (p : Nat) : Int := if Has8 g is then (if Has8 g sm then f p else - f p) else if Has8 g sm then 0 else sgn 2 (numAt f p 2)
/-- Numbers as they are read, a flag for each, from the last number and a place on. -/
def plGo (f : Nat → Int) (n : Nat) (is sm : Int) : List Int → Int → Nat → Fl7
  | [], _, p => ⟨0, [], p⟩
  | g :: r, v, p =>
    if n < p + sw7 is sm g then ⟨3, [], 0⟩
    else if ¬ Sh (v + sv7 f is sm g p) then ⟨6, [], 0⟩
    else if (plGo f n is sm r (v + sv7 f is sm g p) (p + sw7 is sm g)).e ≠ 0 then ⟨(plGo f n is sm r (v + sv7 f is sm g p) (p + sw7 is sm g)).e, [], 0⟩
    else ⟨0, (v + sv7 f is sm g p) :: (plGo f n is sm r (v + sv7 f is sm g p) (p + sw7 is sm g)).L, (plGo f n is sm r (v + sv7 f is sm g p) (p + sw7 is sm g)).p⟩
/-- A flag tells a step of d. -/
def Tells (is sm d g : Int) : Prop := (Has8 g is ↔ (d ≠ 0 ∧ -256 < d ∧ d < 256)) ∧ (Has8 g sm ↔ (0 ≤ d ∧ d < 256))
theorem tells_w {is sm d g : Int} (h : Tells is sm d g) : sw7 is sm g = (stp7 d).length := by
  obtain ⟨h1, h2⟩ := h
  unfold sw7 stp7
  by_cases e0 : d = 0
  · rw [if_neg (by rw [h1]; omega), if_pos (by rw [h2]; omega), if_pos e0]; rfl
  · by_cases e1 : 0 < d ∧ d < 256
    · rw [if_pos (by rw [h1]; omega), if_neg e0, if_pos e1]; rfl
    · by_cases e2 : -256 < d ∧ d < 0
      · rw [if_pos (by rw [h1]; omega), if_neg e0, if_neg e1, if_pos e2]; rfl
      · rw [if_neg (by rw [h1]; omega), if_neg (by rw [h2]; omega), if_neg e0, if_neg e1, if_neg e2, putL_len]
theorem tells_v {is sm d g : Int} {f : Nat → Int} {p : Nat} (h : Tells is sm d g) (hd : Sh d) (hat : AtL f p (stp7 d)) : sv7 f is sm g p = d := by
  obtain ⟨h1, h2⟩ := h
  unfold stp7 at hat
  unfold sv7
  by_cases e0 : d = 0
  · rw [if_neg (by rw [h1]; omega), if_pos (by rw [h2]; omega)]; exact e0.symm
  · by_cases e1 : 0 < d ∧ d < 256
    · rw [if_neg e0, if_pos e1] at hat
      rw [if_pos (by rw [h1]; omega), if_pos (by rw [h2]; omega)]
      have := hat 0 (by simp); simpa using this
    · by_cases e2 : -256 < d ∧ d < 0
      · rw [if_neg e0, if_neg e1, if_pos e2] at hat
        rw [if_pos (by rw [h1]; omega), if_neg (by rw [h2]; omega)]
        have := hat 0 (by simp)
        simp at this; omega
      · rw [if_neg e0, if_neg e1, if_neg e2] at hat
        rw [if_neg (by rw [h1]; omega), if_neg (by rw [h2]; omega)]
        exact atL_s2 hat hd
/-- Each flag tells the step to its number. -/
def TellsL (is sm : Int) : Int → List Int → List Int → Prop
  | _, [], [] => True
  | v, x :: r, g :: s => Tells is sm (x - v) g ∧ Sh (x - v) ∧ Sh x ∧ TellsL is sm x r s
  | _, _, _ => False
theorem pl_back (f : Nat → Int) (n : Nat) (is sm : Int) : ∀ (l gs : List Int) (v : Int) (p : Nat), TellsL is sm v l gs → AtL f p (stps7 v l) →
    (p + (stps7 v l).length ≤ n → plGo f n is sm gs v p = ⟨0, l, p + (stps7 v l).length⟩) ∧ (p ≤ n → n < p + (stps7 v l).length → (plGo f n is sm gs v p).e = 3) := by
  intro l
  induction l with
  | nil =>
    intro gs v p ht _
    cases gs with
    | nil => exact ⟨fun _ => rfl, fun h1 h2 => absurd h2 (by simpa [stps7] using h1)⟩
    | cons g s => exact ht.elim
  | cons x r ih =>
    intro gs v p ht hat
    cases gs with
    | nil => exact ht.elim
    | cons g s =>
      obtain ⟨t1, t2, t3, t4⟩ := ht
      unfold stps7 at hat
      obtain ⟨a1, a2⟩ := AtL.app hat rfl
      have hw := tells_w t1
      have hv := tells_v t1 t2 a1
      obtain ⟨i1, i2⟩ := ih s x (p + (stp7 (x - v)).length) t4 a2
      unfold stps7
      rw [List.length_append]
      unfold plGo
      rw [hw, hv, show v + (x - v) = x by omega]
      constructor
      · intro hn
        rw [if_neg (by omega), if_neg (by simpa using t3), i1 (by omega)]
        simp; omega
      · intro hpn hn
        by_cases h1 : n < p + (stp7 (x - v)).length
        · rw [if_pos h1]
        · rw [if_neg h1, if_neg (by simpa using t3), i2 (by omega) (by omega)]
          simp

/-- The flag of a point: on the curve or not, and its two steps. -/
def fl7 (on : Bool) (dx dy : Int) : Int := (if on then 1 else 0) + sfl7 2 16 dx + sfl7 4 32 dy
theorem sfl7_x (d : Int) : (d = 0 ∧ sfl7 2 16 d = 16) ∨ (0 < d ∧ d < 256 ∧ sfl7 2 16 d = 18) ∨ (-256 < d ∧ d < 0 ∧ sfl7 2 16 d = 2) ∨ ((256 ≤ d ∨ d ≤ -256) ∧ sfl7 2 16 d = 0) := by
  unfold sfl7
  repeat' split
  all_goals omega
theorem sfl7_y (d : Int) : (d = 0 ∧ sfl7 4 32 d = 32) ∨ (0 < d ∧ d < 256 ∧ sfl7 4 32 d = 36) ∨ (-256 < d ∧ d < 0 ∧ sfl7 4 32 d = 4) ∨ ((256 ≤ d ∨ d ≤ -256) ∧ sfl7 4 32 d = 0) := by
  unfold sfl7
  repeat' split
  all_goals omega
theorem fl7_ok (on : Bool) (dx dy : Int) : FlOk (fl7 on dx dy) ∧ fl7 on dx dy < 64 := by
  unfold fl7 FlOk Has8
  rcases sfl7_x dx with ⟨_, h⟩ | ⟨_, _, h⟩ | ⟨_, _, h⟩ | ⟨_, h⟩ <;> rcases sfl7_y dy with ⟨_, k⟩ | ⟨_, _, k⟩ | ⟨_, _, k⟩ | ⟨_, k⟩ <;> rw [h, k] <;> cases on <;> decide
theorem fl7_x {on : Bool} {dx dy g : Int} (hg : AsFl g (fl7 on dx dy)) : Tells 2 16 dx g := by
  unfold Tells Has8
  unfold AsFl fl7 at hg
  rcases sfl7_x dx with ⟨_, h⟩ | ⟨_, _, h⟩ | ⟨_, _, h⟩ | ⟨_, h⟩ <;> rcases sfl7_y dy with ⟨_, k⟩ | ⟨_, _, k⟩ | ⟨_, _, k⟩ | ⟨_, k⟩ <;> rw [h, k] at hg <;> cases on <;> simp at hg <;> rcases hg with rfl | rfl <;> omega
theorem fl7_y {on : Bool} {dx dy g : Int} (hg : AsFl g (fl7 on dx dy)) : Tells 4 32 dy g := by
  unfold Tells Has8
  unfold AsFl fl7 at hg
  rcases sfl7_x dx with ⟨_, h⟩ | ⟨_, _, h⟩ | ⟨_, _, h⟩ | ⟨_, h⟩ <;> rcases sfl7_y dy with ⟨_, k⟩ | ⟨_, _, k⟩ | ⟨_, _, k⟩ | ⟨_, k⟩ <;> rw [h, k] at hg <;> cases on <;> simp at hg <;> rcases hg with rfl | rfl <;> omega
theorem fl7_on {on : Bool} {dx dy g : Int} (hg : AsFl g (fl7 on dx dy)) : decide (Has8 g 1) = on := by
  unfold Has8
  unfold AsFl fl7 at hg
  rcases sfl7_x dx with ⟨_, h⟩ | ⟨_, _, h⟩ | ⟨_, _, h⟩ | ⟨_, h⟩ <;> rcases sfl7_y dy with ⟨_, k⟩ | ⟨_, _, k⟩ | ⟨_, _, k⟩ | ⟨_, k⟩ <;> rw [h, k] at hg <;> cases on <;> simp at hg <;> rcases hg with rfl | rfl <;> decide

/-- The flags of points: where they are, and whether they are on the curve. -/
def fls7 (vx vy : Int) : List Int → List Int → List Bool → List Int
  | x :: xs, y :: ys, o :: os => fl7 o (x - vx) (y - vy) :: fls7 x y xs ys os
  | _, _, _ => []
theorem fls7_len : ∀ (xs ys : List Int) (os : List Bool) (vx vy : Int), xs.length = ys.length → xs.length = os.length → (fls7 vx vy xs ys os).length = xs.length := by
  intro xs
  induction xs with
  | nil => intro ys os vx vy _ _; rfl
  | cons x xs ih =>
    intro ys os vx vy h1 h2
    cases ys with
    | nil => simp at h1
    | cons y ys =>
      cases os with
      | nil => simp at h2
      | cons o os =>
        unfold fls7
        rw [List.length_cons, List.length_cons, ih ys os x y (by simpa using h1) (by simpa using h2)]
theorem fls7_ok : ∀ (xs ys : List Int) (os : List Bool) (vx vy : Int), ∀ g ∈ fls7 vx vy xs ys os, FlOk g := by
  intro xs
  induction xs with
  | nil => intro ys os vx vy g hg; simp [fls7] at hg
  | cons x xs ih =>
    intro ys os vx vy g hg
    cases ys with
    | nil => simp [fls7] at hg
    | cons y ys =>
      cases os with
      | nil => simp [fls7] at hg
      | cons o os =>
        unfold fls7 at hg
        rcases List.mem_cons.1 hg with rfl | hg
        · exact (fl7_ok o _ _).1
        · exact ih ys os x y g hg
/-- Steps that fit in two bytes. -/
def StepsOk (v : Int) : List Int → Prop
  | [] => True
  | x :: r => Sh (x - v) ∧ Sh x ∧ StepsOk x r
/-- Lists of flags that are as written, one for one. -/
def AsL (gs fs : List Int) : Prop := gs.length = fs.length ∧ ∀ j, j < fs.length → AsFl (gs.getD j 0) (fs.getD j 0)
theorem AsL.cons {g f : Int} {gs fs : List Int} (h : AsL (g :: gs) (f :: fs)) : AsFl g f ∧ AsL gs fs := by
  refine ⟨h.2 0 (by simp), by simpa using h.1, fun j hj => ?_⟩
  have := h.2 (j + 1) (by simpa using hj)
  simpa using this
theorem got7_asL (l : List Int) : AsL (got7 l) l := ⟨got7_len l, got7_as l⟩
theorem fls7_tells : ∀ (xs ys : List Int) (os : List Bool) (vx vy : Int) (gs : List Int), xs.length = ys.length → xs.length = os.length → AsL gs (fls7 vx vy xs ys os) → StepsOk vx xs → StepsOk vy ys →
    TellsL 2 16 vx xs gs ∧ TellsL 4 32 vy ys gs ∧ gs.map (fun g => decide (Has8 g 1)) = os := by
  intro xs
  induction xs with
  | nil =>
    intro ys os vx vy gs h1 h2 hg _ _
    cases ys with
    | cons y ys => simp at h1
    | nil =>
      cases os with
      | cons o os => simp at h2
      | nil =>
        cases gs with
        | cons g gs => have := hg.1; simp [fls7] at this
        | nil => exact ⟨trivial, trivial, rfl⟩
  | cons x xs ih =>
    intro ys os vx vy gs h1 h2 hg k1 k2
    cases ys with
    | nil => simp at h1
    | cons y ys =>
      cases os with
      | nil => simp at h2
      | cons o os =>
        unfold fls7 at hg
        cases gs with
        | nil => have := hg.1; simp at this
        | cons g gs =>
          obtain ⟨g1, g2⟩ := hg.cons
          obtain ⟨a1, a2, a3⟩ := k1
          obtain ⟨b1, b2, b3⟩ := k2
          obtain ⟨r1, r2, r3⟩ := ih ys os x y gs (by simpa using h1) (by simpa using h2) g2 a3 b3
          refine ⟨⟨fl7_x g1, a1, a2, r1⟩, ⟨fl7_y g1, b1, b2, r2⟩, ?_⟩
          rw [List.map_cons, r3, fl7_on g1]

/-- All the points' bytes, and what they are read as. -/
def kn7 (xs ys : List Int) (os : List Bool) : List Int := rle7 (fls7 0 0 xs ys os) ++ (stps7 0 xs ++ stps7 0 ys)
structure Kn7 where
  (e : Int) (G X Y : List Int)
def knGo (f : Nat → Int) (n m p : Nat) : Kn7 :=
  if (flGo f n m m p).e ≠ 0 then ⟨(flGo f n m m p).e, [], [], []⟩
  else if (plGo f n 2 16 (flGo f n m m p).L 0 (flGo f n m m p).p).e ≠ 0 then ⟨(plGo f n 2 16 (flGo f n m m p).L 0 (flGo f n m m p).p).e, [], [], []⟩
  else if (plGo f n 4 32 (flGo f n m m p).L 0 (plGo f n 2 16 (flGo f n m m p).L 0 (flGo f n m m p).p).p).e ≠ 0 then ⟨(plGo f n 4 32 (flGo f n m m p).L 0 (plGo f n 2 16 (flGo f n m m p).L 0 (flGo f n m m p).p).p).e, [], [], []⟩
  else ⟨0, (flGo f n m m p).L, (plGo f n 2 16 (flGo f n m m p).L 0 (flGo f n m m p).p).L, (plGo f n 4 32 (flGo f n m m p).L 0 (plGo f n 2 16 (flGo f n m m p).L 0 (flGo f n m m p).p).p).L⟩
theorem kn_back (f : Nat → Int) (n p : Nat) (xs ys : List Int) (os : List Bool) (h1 : xs.length = ys.length) (h2 : xs.length = os.length) (k1 : StepsOk 0 xs) (k2 : StepsOk 0 ys) (hat : AtL f p (kn7 xs ys os)) :
    (p + (kn7 xs ys os).length ≤ n → ∃ gs, knGo f n xs.length p = ⟨0, gs, xs, ys⟩ ∧ gs.map (fun g => decide (Has8 g 1)) = os) ∧ (p ≤ n → n < p + (kn7 xs ys os).length → (knGo f n xs.length p).e = 3) := by
  unfold kn7 at hat ⊢
  have hl := fls7_len xs ys os 0 0 h1 h2
  obtain ⟨a1, a2⟩ := AtL.app hat rfl
  obtain ⟨a2, a3⟩ := AtL.app a2 rfl
  obtain ⟨f1, f2⟩ := fl_back f n (fls7 0 0 xs ys os) (fls7_ok xs ys os 0 0) xs.length p (by omega) a1
  rw [hl] at f1 f2
  obtain ⟨t1, t2, t3⟩ := fls7_tells xs ys os 0 0 _ h1 h2 (got7_asL _) k1 k2
  obtain ⟨x1, x2⟩ := pl_back f n 2 16 xs _ 0 _ t1 a2
  obtain ⟨y1, y2⟩ := pl_back f n 4 32 ys _ 0 _ t2 a3
  simp only [List.length_append] at *
  unfold knGo
  constructor
  · intro hn
    rw [f1 (by omega)]
    dsimp only
    rw [if_neg (by simp), x1 (by omega)]
    dsimp only
    rw [if_neg (by simp), y1 (by omega)]
    dsimp only
    rw [if_neg (by simp)]
    exact ⟨_, rfl, t3⟩
  · intro hp hn
    by_cases c1 : n < p + (rle7 (fls7 0 0 xs ys os)).length
    · rw [if_pos (by rw [f2 hp c1]; decide)]; exact f2 hp c1
    · rw [f1 (by omega)]
      dsimp only
      rw [if_neg (by simp)]
      by_cases c2 : n < p + (rle7 (fls7 0 0 xs ys os)).length + (stps7 0 xs).length
      · rw [if_pos (by rw [x2 (by omega) c2]; decide)]; exact x2 (by omega) c2
      · rw [x1 (by omega)]
        dsimp only
        rw [if_neg (by simp), if_pos (by rw [y2 (by omega) (by omega)]; decide)]; exact y2 (by omega) (by omega)
/-- The points' bytes are no more than five for each, and some. -/
theorem kn7_len (xs ys : List Int) (os : List Bool) (h1 : xs.length = ys.length) (h2 : xs.length = os.length) : (kn7 xs ys os).length ≤ 5 * xs.length ∧ (xs ≠ [] → 0 < (kn7 xs ys os).length) := by
  unfold kn7
  have hl := fls7_len xs ys os 0 0 h1 h2
  have r1 := rle7_len (fls7 0 0 xs ys os)
  have r2 := stps7_le xs 0
  have r3 := stps7_le ys 0
  simp only [List.length_append]
  refine ⟨by omega, fun h => ?_⟩
  have := r1.2 (by intro h0; rw [h0] at hl; exact h (List.length_eq_zero_iff.1 hl.symm))
  omega
end Go.Proofs.Ytcjjcjpkmjbfkaa

/-
  Layer 7: a whole glyph's bytes as lists of numbers: how many points each contour has, the points' numbers, the code; what any bytes read as. No walk.
-/
namespace Go.Proofs.Ytcjjcjpkmjbfkaa
open Go.RowKit
set_option linter.unusedVariables false
set_option linter.unusedSimpArgs false

/-- The last points of contours of so many points, from the last one on. -/
def ends7 (v : Int) : List Nat → List Int
  | [] => []
  | l :: r => (v + l) :: ends7 (v + l) r
theorem ends7_len : ∀ (ls : List Nat) (v : Int), (ends7 v ls).length = ls.length := by
  intro ls
  induction ls with
  | nil => intro v; rfl
  | cons l r ih => intro v; unfold ends7; rw [List.length_cons, List.length_cons, ih]
theorem ends7_get : ∀ (ls : List Nat) (v : Int) (j : Nat), j < ls.length → (ends7 v ls).getD j 0 = v + ((ls.take (j + 1)).sum : Nat) := by
  intro ls
  induction ls with
  | nil => intro v j hj; simp at hj
  | cons l r ih =>
    intro v j hj
    unfold ends7
    cases j with
    | zero => simp
    | succ j =>
      rw [List.getD_cons_succ, ih (v + l) j (by simpa using hj), List.take_succ_cons, List.sum_cons]
      omega
theorem sum_take_le (ls : List Nat) (j : Nat) : (ls.take j).sum ≤ ls.sum := by
  have h := List.take_append_drop j ls
  have : ls.sum = (ls.take j).sum + (ls.drop j).sum := by rw [← List.sum_append_nat, h]
  omega
theorem sum_take_lt (ls : List Nat) (h : ∀ l ∈ ls, 1 ≤ l) (j : Nat) (hj : j < ls.length) : (ls.take j).sum + 1 ≤ (ls.take (j + 1)).sum := by
  rw [List.take_succ_eq_append_getElem hj, List.sum_append_nat]
  have := h ls[j] (List.getElem_mem hj)
  simp; omega
theorem len_le_sum (ls : List Nat) (h : ∀ l ∈ ls, 1 ≤ l) : ls.length ≤ ls.sum := by
  induction ls with
  | nil => simp
  | cons l r ih =>
    have h1 := h l (by simp)
    have h2 := ih (fun x hx => h x (by simp [hx]))
    rw [List.sum_cons, List.length_cons]; omega
/-- Numbers of two bytes in a row. -/
theorem nums_at {f : Nat → Int} {p : Nat} : ∀ (l : List Int) (p : Nat), AtL f p (nums8 l) → ∀ j, j < l.length → numAt f (p + 2 * j) 2 = l.getD j 0 % 65536 := by
  intro l
  induction l with
  | nil => intro p _ j hj; simp at hj
  | cons x r ih =>
    intro p h j hj
    have h' : AtL f p (putL x 2 ++ nums8 r) := by simpa [nums8] using h
    obtain ⟨h1, h2⟩ := AtL.app h' rfl
    cases j with
    | zero => rw [Nat.mul_zero, Nat.add_zero, atL_put2 h1]; rfl
    | succ j =>
      rw [putL_len] at h2
      rw [show p + 2 * (j + 1) = p + 2 + 2 * j by omega, ih (p + 2) h2 j (by simpa using hj), List.getD_cons_succ]

structure An7 where
  (e : Int) (E : List Int) (s m : Nat) (G X Y : List Int)
def no7 (e : Int) : An7 := ⟨e, [], 0, 0, [], [], []⟩
def en7 (f : Nat → Int) (i : Nat) : Int := numAt f (10 + 2 * i) 2
/-- Behind the contours' last points. -/
def rdB7 (f : Nat → Int) (n k m : Nat) : An7 :=
  if n < 12 + 2 * k then no7 3
  else if (n : Int) < 12 + 2 * k + numAt f (10 + 2 * k) 2 then no7 3
  else if (knGo f n m (12 + 2 * k + (numAt f (10 + 2 * k) 2).toNat)).e ≠ 0 then no7 (knGo f n m (12 + 2 * k + (numAt f (10 + 2 * k) 2).toNat)).e
  else ⟨0, (List.range k).map (en7 f), 12 + 2 * k, (numAt f (10 + 2 * k) 2).toNat, (knGo f n m (12 + 2 * k + (numAt f (10 + 2 * k) 2).toNat)).G, (knGo f n m (12 + 2 * k + (numAt f (10 + 2 * k) 2).toNat)).X, (knGo f n m (12 + 2 * k + (numAt f (10 + 2 * k) 2).toNat)).Y⟩
def rdA7 (f : Nat → Int) (n k : Nat) : An7 :=
  if n < 10 + 2 * k then no7 3
  else if ∃ i, i < k ∧ 0 < i ∧ en7 f i ≤ en7 f (i - 1) then no7 12
  else if 4096 ≤ en7 f (k - 1) then no7 7
  else rdB7 f n k (en7 f (k - 1) + 1).toNat
def rdAns7 (f : Nat → Int) (n : Nat) : An7 :=
  if n = 0 then no7 0
  else if n < 10 then no7 3
  else if s2 f 0 < 0 then no7 11
  else if s2 f 0 = 0 then no7 0
  else rdA7 f n (s2 f 0).toNat
/-- A glyph's bytes: so many points a contour, a box, a code, the points' numbers. -/
def wrB7 (ls : List Nat) (box c xs ys : List Int) (os : List Bool) : List Int :=
  putL ls.length 2 ++ (nums8 box ++ (nums8 (ends7 (-1) ls) ++ (putL c.length 2 ++ (c ++ kn7 xs ys os))))
theorem wrB7_len (ls : List Nat) (box c xs ys : List Int) (os : List Bool) (hb : box.length = 4) : (wrB7 ls box c xs ys os).length = 12 + 2 * ls.length + c.length + (kn7 xs ys os).length := by
  unfold wrB7
  simp only [List.length_append, putL_len, nums8_len, ends7_len, hb]; omega
theorem back7 (f : Nat → Int) (n : Nat) (ls : List Nat) (box c xs ys : List Int) (os : List Bool) (hb : box.length = 4) (hl0 : ls ≠ []) (hl : ∀ l ∈ ls, 1 ≤ l) (hs : ls.sum = xs.length) (hm : xs.length ≤ 4096) (hc : c.length ≤ 65535)
    (h1 : xs.length = ys.length) (h2 : xs.length = os.length) (k1 : StepsOk 0 xs) (k2 : StepsOk 0 ys) (hat : AtL f 0 (wrB7 ls box c xs ys os)) :
    ((wrB7 ls box c xs ys os).length ≤ n → ∃ gs, rdAns7 f n = ⟨0, ends7 (-1) ls, 12 + 2 * ls.length, c.length, gs, xs, ys⟩ ∧ gs.map (fun g => decide (Has8 g 1)) = os ∧ ∀ j, j < c.length → f (12 + 2 * ls.length + j) = c.getD j 0) ∧
    (0 < n → n < (wrB7 ls box c xs ys os).length → rdAns7 f n = no7 3) := by
  rw [wrB7_len _ _ _ _ _ _ hb]
  unfold wrB7 at hat
  obtain ⟨a0, a1⟩ := AtL.app hat rfl
  obtain ⟨_, a1⟩ := AtL.app a1 rfl
  obtain ⟨a2, a3⟩ := AtL.app a1 rfl
  obtain ⟨a3, a4⟩ := AtL.app a3 rfl
  obtain ⟨a4, a5⟩ := AtL.app a4 rfl
  simp only [putL_len, nums8_len, ends7_len, hb] at a2 a3 a4 a5
  have hll := len_le_sum ls hl
  have hlp : 0 < ls.length := List.length_pos_iff.2 hl0
  have es : s2 f 0 = (ls.length : Int) := by
    unfold s2
    exact atL_s2 a0 ⟨by omega, by omega⟩
  have een : ∀ i, i < ls.length → en7 f i = (ends7 (-1) ls).getD i 0 := by
    intro i hi
    unfold en7
    have := nums_at (p := 0) (ends7 (-1) ls) _ a2 i (by rw [ends7_len]; exact hi)
    rw [show 0 + 2 + 2 * 4 + 2 * i = 10 + 2 * i by omega] at this
    rw [this, ends7_get ls (-1) i hi]
    have s1 := sum_take_le ls (i + 1)
    have s2 := sum_take_lt ls hl i hi
    omega
  have ec : numAt f (10 + 2 * ls.length) 2 = (c.length : Int) := by
    have := atL_put2 a3
    rw [show 0 + 2 + 2 * 4 + 2 * ls.length = 10 + 2 * ls.length by omega] at this
    rw [this]; omega
  have eE : (List.range ls.length).map (en7 f) = ends7 (-1) ls := by
    apply List.ext_getElem
    · simp [ends7_len]
    · intro i hi _
      have := een i (by simpa using hi)
      simp only [List.getElem_map, List.getElem_range]
      rw [this, List.getD_eq_getElem?_getD, List.getElem?_eq_getElem (by rw [ends7_len]; simpa using hi)]
      rfl
  have elast : en7 f (ls.length - 1) = (xs.length : Int) - 1 := by
    rw [een _ (by omega), ends7_get ls (-1) _ (by omega), show ls.length - 1 + 1 = ls.length by omega, List.take_length, hs]; omega
  have eord : ¬ ∃ i, i < ls.length ∧ 0 < i ∧ en7 f i ≤ en7 f (i - 1) := by
    rintro ⟨i, i1, i2, i3⟩
    rw [een i i1, een (i - 1) (by omega), ends7_get _ _ _ i1, ends7_get _ _ _ (by omega : i - 1 < ls.length), show i - 1 + 1 = i by omega] at i3
    have := sum_take_lt ls hl i i1
    omega
  have e12 : 0 + 2 + 2 * 4 + 2 * ls.length + 2 = 12 + 2 * ls.length := by omega
  rw [e12] at a4 a5
  obtain ⟨b1, b2⟩ := kn_back f n (12 + 2 * ls.length + c.length) xs ys os h1 h2 k1 k2 a5
  have hxs : (en7 f (ls.length - 1) + 1).toNat = xs.length := by rw [elast]; omega
  unfold rdAns7
  constructor
  · intro hn
    obtain ⟨gs, g1, g2⟩ := b1 hn
    refine ⟨gs, ?_, g2, fun j hj => a4 j hj⟩
    rw [if_neg (by omega), if_neg (by omega), es, if_neg (by omega), if_neg (by omega), Int.toNat_natCast]
    unfold rdA7
    rw [if_neg (by omega), if_neg eord, if_neg (by omega), hxs]
    unfold rdB7
    rw [if_neg (by omega), ec, if_neg (by omega), Int.toNat_natCast, g1, eE]
    simp
  · intro h0 hn

    rw [if_neg (by omega)]
    by_cases c1 : n < 10
    · rw [if_pos c1]
    · rw [if_neg c1, es, if_neg (by omega), if_neg (by omega), Int.toNat_natCast]
      unfold rdA7
      by_cases c2 : n < 10 + 2 * ls.length
      · rw [if_pos c2]
      · rw [if_neg c2, if_neg eord, if_neg (by omega), hxs]
        unfold rdB7
        by_cases c3 : n < 12 + 2 * ls.length
        · rw [if_pos c3]
        · rw [if_neg c3, ec]
          by_cases c4 : (n : Int) < 12 + 2 * ls.length + c.length
          · rw [if_pos c4]
          · rw [if_neg c4, Int.toNat_natCast, b2 (by omega) hn]
            simp

/-- Points cut into contours by the contours' last points. -/
def cutE7 {α : Type} : Nat → List Int → List α → List (List α)
  | _, [], _ => []
  | a, e :: r, K => ((K.take (e + 1).toNat).drop a) :: cutE7 (e + 1).toNat r K
theorem cutE7_ends {α : Type} : ∀ (Z : List (List α)) (A : List α), cutE7 A.length (ends7 ((A.length : Int) - 1) (Z.map List.length)) (A ++ Z.flatten) = Z := by
  intro Z
  induction Z with
  | nil => intro A; rfl
  | cons c Z ih =>
    intro A
    rw [List.map_cons]
    unfold ends7 cutE7
    have e1 : ((A.length : Int) - 1 + (c.length : Int) + 1).toNat = (A ++ c).length := by rw [List.length_append]; omega
    have e2 : (A.length : Int) - 1 + (c.length : Int) = ((A ++ c).length : Int) - 1 := by rw [List.length_append]; omega
    have e3 : A ++ (c :: Z).flatten = (A ++ c) ++ Z.flatten := by rw [List.flatten_cons, List.append_assoc]
    rw [e1, e2, e3, ih (A ++ c), List.take_left', List.drop_left]
    rfl
theorem cutE7_all {α : Type} (Z : List (List α)) : cutE7 0 (ends7 (-1) (Z.map List.length)) Z.flatten = Z := by
  have := cutE7_ends Z []
  simpa using this
/-- Points out of three lists. -/
def zip7 {α : Type} (mk : Int → Int → Bool → α) : List Int → List Int → List Bool → List α
  | x :: xs, y :: ys, o :: os => mk x y o :: zip7 mk xs ys os
  | _, _, _ => []
theorem zip7_map {α : Type} {mk : Int → Int → Bool → α} {fx fy : α → Int} {fo : α → Bool} (h : ∀ k, mk (fx k) (fy k) (fo k) = k) : ∀ K : List α, zip7 mk (K.map fx) (K.map fy) (K.map fo) = K := by
  intro K
  induction K with
  | nil => rfl
  | cons k K ih => simp only [List.map_cons, zip7, h k, ih]
def StepsOkB (v : Int) : List Int → Bool
  | [] => true
  | x :: r => decide (Sh (x - v)) && (decide (Sh x) && StepsOkB x r)
theorem stepsOkB_iff : ∀ (l : List Int) (v : Int), StepsOkB v l = true ↔ StepsOk v l := by
  intro l
  induction l with
  | nil => intro v; simp [StepsOkB, StepsOk]
  | cons x r ih => intro v; simp [StepsOkB, StepsOk, ih x]
instance (v : Int) (l : List Int) : Decidable (StepsOk v l) := decidable_of_iff _ (stepsOkB_iff l v)
/-- Why a glyph can't be written; 0: it can. -/
def wrE7 (ls : List Nat) (c xs ys : List Int) : Int :=
  if ls = [] then (if c = [] then 0 else 4)
  else if 0 ∈ ls then 4
  else if 4096 < ls.sum ∨ 65535 < c.length then 7
  else if StepsOk 0 xs ∧ StepsOk 0 ys then 0 else 6
theorem wrE7_ok {ls : List Nat} {c xs ys : List Int} (h0 : ls ≠ []) (h : wrE7 ls c xs ys = 0) : (∀ l ∈ ls, 1 ≤ l) ∧ ls.sum ≤ 4096 ∧ c.length ≤ 65535 ∧ StepsOk 0 xs ∧ StepsOk 0 ys := by
  unfold wrE7 at h
  rw [if_neg h0] at h
  by_cases h1 : 0 ∈ ls
  · rw [if_pos h1] at h; cases h
  · rw [if_neg h1] at h
    by_cases h2 : 4096 < ls.sum ∨ 65535 < c.length
    · rw [if_pos h2] at h; cases h
    · rw [if_neg h2] at h
      by_cases h3 : StepsOk 0 xs ∧ StepsOk 0 ys
      · refine ⟨fun l hl => ?_, by omega, by omega, h3.1, h3.2⟩
        rcases Nat.eq_zero_or_pos l with rfl | hp
        · exact absurd hl h1
        · exact hp
      · rw [if_neg h3] at h; cases h
/-- The bytes of a glyph that can be written. -/
def wr7 (ls : List Nat) (box c xs ys : List Int) (os : List Bool) : List Int := if ls = [] then [] else wrB7 ls box c xs ys os

/-- The least and the greatest of numbers; 0 of none. -/
def mn7 (l : List Int) : Int := l.foldl min (l.headD 0)
def mx7 (l : List Int) : Int := l.foldl max (l.headD 0)
theorem foldl_min_add (d : Int) : ∀ (l : List Int) (a : Int), (l.map (· + d)).foldl min (a + d) = l.foldl min a + d := by
  intro l
  induction l with
  | nil => intro a; rfl
  | cons x r ih =>
    intro a
    rw [List.map_cons, List.foldl_cons, List.foldl_cons, show min (a + d) (x + d) = min a x + d by omega, ih]
theorem foldl_max_add (d : Int) : ∀ (l : List Int) (a : Int), (l.map (· + d)).foldl max (a + d) = l.foldl max a + d := by
  intro l
  induction l with
  | nil => intro a; rfl
  | cons x r ih =>
    intro a
    rw [List.map_cons, List.foldl_cons, List.foldl_cons, show max (a + d) (x + d) = max a x + d by omega, ih]
theorem mn7_add {l : List Int} (h : l ≠ []) (d : Int) : mn7 (l.map (· + d)) = mn7 l + d := by
  cases l with
  | nil => exact absurd rfl h
  | cons x r => exact foldl_min_add d (x :: r) x
theorem mx7_add {l : List Int} (h : l ≠ []) (d : Int) : mx7 (l.map (· + d)) = mx7 l + d := by
  cases l with
  | nil => exact absurd rfl h
  | cons x r => exact foldl_max_add d (x :: r) x
theorem mn7_snoc (l : List Int) (x : Int) : mn7 (l ++ [x]) = if l = [] then x else min (mn7 l) x := by
  cases l with
  | nil => simp [mn7]
  | cons a r => rw [if_neg (by simp)]; unfold mn7; rw [List.foldl_append]; rfl
theorem mx7_snoc (l : List Int) (x : Int) : mx7 (l ++ [x]) = if l = [] then x else max (mx7 l) x := by
  cases l with
  | nil => simp [mx7]
  | cons a r => rw [if_neg (by simp)]; unfold mx7; rw [List.foldl_append]; rfl
theorem foldl_min_sh : ∀ (l : List Int) (a : Int), Sh a → (∀ x ∈ l, Sh x) → Sh (l.foldl min a) := by
  intro l
  induction l with
  | nil => intro a h _; exact h
  | cons x r ih =>
    intro a h k
    refine ih _ ?_ (fun y hy => k y (by simp [hy]))
    have := k x (by simp)
    unfold Sh at *
    omega
theorem foldl_max_sh : ∀ (l : List Int) (a : Int), Sh a → (∀ x ∈ l, Sh x) → Sh (l.foldl max a) := by
  intro l
  induction l with
  | nil => intro a h _; exact h
  | cons x r ih =>
    intro a h k
    refine ih _ ?_ (fun y hy => k y (by simp [hy]))
    have := k x (by simp)
    unfold Sh at *
    omega
theorem stepsOk_sh : ∀ (l : List Int) (v : Int), StepsOk v l → ∀ x ∈ l, Sh x := by
  intro l
  induction l with
  | nil => intro v _ x hx; cases hx
  | cons y r ih =>
    intro v h x hx
    obtain ⟨_, h2, h3⟩ := h
    rcases List.mem_cons.1 hx with rfl | hx
    · exact h2
    · exact ih y h3 x hx
/-- A glyph's box. -/
def box7 (xs ys : List Int) : List Int := [mn7 xs, mn7 ys, mx7 xs, mx7 ys]
theorem box7_len (xs ys : List Int) : (box7 xs ys).length = 4 := rfl
/-- How long a glyph's bytes are. -/
theorem short7 (ls : List Nat) (c xs ys : List Int) (os : List Bool) (h0 : ls ≠ []) (hl : ∀ l ∈ ls, 1 ≤ l) (hs : ls.sum = xs.length) (h1 : xs.length = ys.length) (h2 : xs.length = os.length) :
    (wr7 ls (box7 xs ys) c xs ys os).length ≤ 12 + 2 * ls.length + c.length + 5 * xs.length ∧ 12 + 2 * ls.length + c.length < (wr7 ls (box7 xs ys) c xs ys os).length := by
  unfold wr7
  rw [if_neg h0, wrB7_len _ _ _ _ _ _ (box7_len xs ys)]
  obtain ⟨a, b⟩ := kn7_len xs ys os h1 h2
  have hp := len_le_sum ls hl
  have hq : 0 < ls.length := List.length_pos_iff.2 h0
  have := b (by intro e; rw [e] at hs; simp at hs; rw [hs] at hp; omega)
  omega
/-- Flags and numbers as a loop comes to them: one more behind those that are there. -/
theorem fls7_snoc : ∀ (xs ys : List Int) (os : List Bool) (vx vy x y : Int) (o : Bool), xs.length = ys.length → xs.length = os.length →
    fls7 vx vy (xs ++ [x]) (ys ++ [y]) (os ++ [o]) = fls7 vx vy xs ys os ++ [fl7 o (x - xs.getLastD vx) (y - ys.getLastD vy)] := by
  intro xs
  induction xs with
  | nil =>
    intro ys os vx vy x y o h1 h2
    cases ys with
    | cons b ys => simp at h1
    | nil =>
      cases os with
      | cons b os => simp at h2
      | nil => rfl
  | cons a xs ih =>
    intro ys os vx vy x y o h1 h2
    cases ys with
    | nil => simp at h1
    | cons b ys =>
      cases os with
      | nil => simp at h2
      | cons q os =>
        rw [List.cons_append, List.cons_append, List.cons_append]
        unfold fls7
        rw [ih ys os a b x y o (by simpa using h1) (by simpa using h2), List.cons_append, List.getLastD_cons, List.getLastD_cons]
theorem stps7_snoc : ∀ (xs : List Int) (v x : Int), stps7 v (xs ++ [x]) = stps7 v xs ++ stp7 (x - xs.getLastD v) := by
  intro xs
  induction xs with
  | nil => intro v x; simp [stps7]
  | cons a xs ih => intro v x; rw [List.cons_append]; unfold stps7; rw [ih, List.append_assoc, List.getLastD_cons]
theorem stepsOk_snoc : ∀ (xs : List Int) (v x : Int), StepsOk v (xs ++ [x]) ↔ StepsOk v xs ∧ Sh (x - xs.getLastD v) ∧ Sh x := by
  intro xs
  induction xs with
  | nil => intro v x; simp [StepsOk]
  | cons a xs ih => intro v x; rw [List.cons_append]; unfold StepsOk; rw [ih, List.getLastD_cons]; constructor <;> (intro h; obtain ⟨h1, h2⟩ := h; simp_all)
end Go.Proofs.Ytcjjcjpkmjbfkaa

/-
  Layer 7: the lists' steps as loops take them. No walk.
-/
namespace Go.Proofs.Ytcjjcjpkmjbfkaa
open Go.RowKit
set_option linter.unusedVariables false
set_option linter.unusedSimpArgs false

/-- A row of the same flags, found by looking ahead. -/
theorem run7_is (f : Int) : ∀ (k : Nat) (l : List Int) (j : Nat), j ≤ k → j ≤ l.length → (∀ i, i < j → l.getD i 0 = f) → (j = k ∨ j = l.length ∨ l.getD j 0 ≠ f) → run7 f k l = j := by
  intro k
  induction k with
  | zero => intro l j h1 _ _ _; obtain rfl : j = 0 := by omega
            simp [run7]
  | succ k ih =>
    intro l j h1 h2 h3 h4
    cases l with
    | nil => simp at h2; subst h2; simp [run7]
    | cons g r =>
      unfold run7
      cases j with
      | zero =>
        rcases h4 with h | h | h
        · cases h
        · simp at h
        · rw [if_neg (by simpa using h)]
      | succ j =>
        have hg : g = f := by simpa using h3 0 (by omega)
        rw [if_pos hg, ih r j (by omega) (by simpa using h2) (fun i hi => by simpa using h3 (i + 1) (by omega)) (by
          rcases h4 with h | h | h
          · exact .inl (by omega)
          · exact .inr (.inl (by simpa using h))
          · exact .inr (.inr (by simpa using h)))]
theorem pl_cons (f : Nat → Int) (n : Nat) (is sm g : Int) (r : List Int) (v : Int) (p : Nat) : plGo f n is sm (g :: r) v p =
    if n < p + sw7 is sm g then ⟨3, [], 0⟩
    else if ¬ Sh (v + sv7 f is sm g p) then ⟨6, [], 0⟩
    else if (plGo f n is sm r (v + sv7 f is sm g p) (p + sw7 is sm g)).e ≠ 0 then ⟨(plGo f n is sm r (v + sv7 f is sm g p) (p + sw7 is sm g)).e, [], 0⟩
    else ⟨0, (v + sv7 f is sm g p) :: (plGo f n is sm r (v + sv7 f is sm g p) (p + sw7 is sm g)).L, (plGo f n is sm r (v + sv7 f is sm g p) (p + sw7 is sm g)).p⟩ := rfl
/-- One number more is read. -/
theorem pl_step {f : Nat → Int} {n : Nat} {is sm : Int} {g : Int} {r : List Int} {v : Int} {p : Nat} (h : (plGo f n is sm (g :: r) v p).e = 0) :
    p + sw7 is sm g ≤ n ∧ Sh (v + sv7 f is sm g p) ∧ (plGo f n is sm r (v + sv7 f is sm g p) (p + sw7 is sm g)).e = 0 ∧
    (plGo f n is sm (g :: r) v p).L = (v + sv7 f is sm g p) :: (plGo f n is sm r (v + sv7 f is sm g p) (p + sw7 is sm g)).L ∧ (plGo f n is sm (g :: r) v p).p = (plGo f n is sm r (v + sv7 f is sm g p) (p + sw7 is sm g)).p := by
  rw [pl_cons] at h ⊢
  by_cases h1 : n < p + sw7 is sm g
  · rw [if_pos h1] at h; cases h
  · by_cases h2 : ¬ Sh (v + sv7 f is sm g p)
    · rw [if_neg h1, if_pos h2] at h; cases h
    · by_cases h3 : (plGo f n is sm r (v + sv7 f is sm g p) (p + sw7 is sm g)).e ≠ 0
      · rw [if_neg h1, if_neg h2, if_pos h3] at h; exact absurd h h3
      · rw [if_neg h1, if_neg h2, if_neg h3]
        exact ⟨by omega, Decidable.not_not.1 h2, Decidable.not_not.1 h3, rfl, rfl⟩
/-- Why a number can't be read, at the first place where it can't. -/
theorem pl_stop {f : Nat → Int} {n : Nat} {is sm : Int} {g : Int} {r : List Int} {v : Int} {p : Nat} (h : (plGo f n is sm (g :: r) v p).e ≠ 0) :
    (n < p + sw7 is sm g ∧ (plGo f n is sm (g :: r) v p).e = 3) ∨ (p + sw7 is sm g ≤ n ∧ ¬ Sh (v + sv7 f is sm g p) ∧ (plGo f n is sm (g :: r) v p).e = 6) ∨
    (p + sw7 is sm g ≤ n ∧ Sh (v + sv7 f is sm g p) ∧ (plGo f n is sm (g :: r) v p).e = (plGo f n is sm r (v + sv7 f is sm g p) (p + sw7 is sm g)).e) := by
  rw [pl_cons] at h ⊢
  by_cases h1 : n < p + sw7 is sm g
  · rw [if_pos h1]; exact .inl ⟨h1, rfl⟩
  · by_cases h2 : ¬ Sh (v + sv7 f is sm g p)
    · rw [if_neg h1, if_pos h2]; exact .inr (.inl ⟨by omega, h2, rfl⟩)
    · refine .inr (.inr ⟨by omega, Decidable.not_not.1 h2, ?_⟩)
      rw [if_neg h1, if_neg h2]
      by_cases h3 : (plGo f n is sm r (v + sv7 f is sm g p) (p + sw7 is sm g)).e ≠ 0
      · rw [if_pos h3]
      · rw [if_neg h3]; exact (Decidable.not_not.1 h3).symm
theorem pl_len (f : Nat → Int) (n : Nat) (is sm : Int) : ∀ (gs : List Int) (v : Int) (p : Nat), (plGo f n is sm gs v p).e = 0 → (plGo f n is sm gs v p).L.length = gs.length := by
  intro gs
  induction gs with
  | nil => intro v p _; rfl
  | cons g r ih =>
    intro v p h
    obtain ⟨_, _, h3, h4, _⟩ := pl_step h
    rw [h4, List.length_cons, List.length_cons, ih _ _ h3]
/-- Numbers that are read fit in two bytes. -/
theorem pl_sh (f : Nat → Int) (n : Nat) (is sm : Int) : ∀ (gs : List Int) (v : Int) (p : Nat), (plGo f n is sm gs v p).e = 0 → ∀ x ∈ (plGo f n is sm gs v p).L, Sh x := by
  intro gs
  induction gs with
  | nil => intro v p _ x hx; cases hx
  | cons g r ih =>
    intro v p h x hx
    obtain ⟨_, h2, h3, h4, _⟩ := pl_step h
    rw [h4] at hx
    rcases List.mem_cons.1 hx with rfl | hx
    · exact h2
    · exact ih _ _ h3 x hx
theorem fl_len (f : Nat → Int) (n : Nat) (hf : ∀ j, j < n → 0 ≤ f j) : ∀ (k m p : Nat), m ≤ k → (flGo f n k m p).e = 0 → (flGo f n k m p).L.length = m := by
  intro k
  induction k with
  | zero => intro m p hm _; obtain rfl : m = 0 := by omega
            rfl
  | succ k ih =>
    intro m p hm h
    cases m with
    | zero => rfl
    | succ m =>
      unfold flGo at h ⊢
      by_cases h1 : n < p + 1
      · rw [if_pos h1] at h; cases h
      · by_cases h8 : Has8 (f p) 8
        · rw [if_neg h1, if_pos h8] at h ⊢
          by_cases h2 : n < p + 2
          · rw [if_pos h2] at h; cases h
          · by_cases h3 : (m : Int) < f (p + 1)
            · rw [if_neg h2, if_pos h3] at h; cases h
            · rw [if_neg h2, if_neg h3] at h ⊢
              by_cases h4 : (flGo f n k (m - (f (p + 1)).toNat) (p + 2)).e ≠ 0
              · rw [if_pos h4] at h; exact absurd h h4
              · rw [if_neg h4]
                have := ih (m - (f (p + 1)).toNat) (p + 2) (by omega) (Decidable.not_not.1 h4)
                have := hf (p + 1) (by omega)
                simp only [List.length_append, List.length_replicate]
                omega
        · rw [if_neg h1, if_neg h8] at h ⊢
          by_cases h4 : (flGo f n k m (p + 1)).e ≠ 0
          · rw [if_pos h4] at h; exact absurd h h4
          · rw [if_neg h4]
            have := ih m (p + 1) (by omega) (Decidable.not_not.1 h4)
            simp only [List.length_cons]
            omega
theorem fl_cons (f : Nat → Int) (n k m p : Nat) : flGo f n (k + 1) (m + 1) p =
    if n < p + 1 then ⟨3, [], 0⟩
    else if Has8 (f p) 8 then
      if n < p + 2 then ⟨3, [], 0⟩
      else if (m : Int) < f (p + 1) then ⟨4, [], 0⟩
      else if (flGo f n k (m - (f (p + 1)).toNat) (p + 2)).e ≠ 0 then ⟨(flGo f n k (m - (f (p + 1)).toNat) (p + 2)).e, [], 0⟩
      else ⟨0, List.replicate ((f (p + 1)).toNat + 1) (f p) ++ (flGo f n k (m - (f (p + 1)).toNat) (p + 2)).L, (flGo f n k (m - (f (p + 1)).toNat) (p + 2)).p⟩
    else if (flGo f n k m (p + 1)).e ≠ 0 then ⟨(flGo f n k m (p + 1)).e, [], 0⟩
    else ⟨0, f p :: (flGo f n k m (p + 1)).L, (flGo f n k m (p + 1)).p⟩ := rfl
/-- More fuel than flags: the same answer. -/
theorem fl_fuel (f : Nat → Int) (n : Nat) (hf : ∀ j, j < n → 0 ≤ f j) : ∀ (k k2 m p : Nat), m ≤ k → m ≤ k2 → flGo f n k m p = flGo f n k2 m p := by
  intro k
  induction k with
  | zero =>
    intro k2 m p h1 h2
    obtain rfl : m = 0 := by omega
    cases k2 <;> rfl
  | succ k ih =>
    intro k2 m p h1 h2
    cases m with
    | zero => cases k2 <;> rfl
    | succ m =>
      obtain ⟨k3, rfl⟩ : ∃ q, k2 = q + 1 := ⟨k2 - 1, by omega⟩
      rw [fl_cons, fl_cons, ih k3 (m - (f (p + 1)).toNat) (p + 2) (by omega) (by omega), ih k3 m (p + 1) (by omega) (by omega)]
/-- One step of reading flags: one flag or a row of them, or why not. -/
theorem fl_step {f : Nat → Int} {n m p : Nat} (hf : ∀ j, j < n → 0 ≤ f j) :
    (n < p + 1 ∧ (flGo f n (m + 1) (m + 1) p).e = 3) ∨
    (p + 1 ≤ n ∧ ¬ Has8 (f p) 8 ∧ (flGo f n (m + 1) (m + 1) p).e = (flGo f n m m (p + 1)).e ∧ ((flGo f n m m (p + 1)).e = 0 → (flGo f n (m + 1) (m + 1) p).L = f p :: (flGo f n m m (p + 1)).L ∧ (flGo f n (m + 1) (m + 1) p).p = (flGo f n m m (p + 1)).p)) ∨
    (p + 1 ≤ n ∧ n < p + 2 ∧ Has8 (f p) 8 ∧ (flGo f n (m + 1) (m + 1) p).e = 3) ∨
    (p + 2 ≤ n ∧ Has8 (f p) 8 ∧ (m : Int) < f (p + 1) ∧ (flGo f n (m + 1) (m + 1) p).e = 4) ∨
    (∃ j : Nat, p + 2 ≤ n ∧ Has8 (f p) 8 ∧ f (p + 1) = (j : Int) ∧ j ≤ m ∧ (flGo f n (m + 1) (m + 1) p).e = (flGo f n (m - j) (m - j) (p + 2)).e ∧
      ((flGo f n (m - j) (m - j) (p + 2)).e = 0 → (flGo f n (m + 1) (m + 1) p).L = List.replicate (j + 1) (f p) ++ (flGo f n (m - j) (m - j) (p + 2)).L ∧ (flGo f n (m + 1) (m + 1) p).p = (flGo f n (m - j) (m - j) (p + 2)).p)) := by
  rw [fl_cons]
  by_cases h1 : n < p + 1
  · exact .inl ⟨h1, by rw [if_pos h1]⟩
  · by_cases h8 : Has8 (f p) 8
    · rw [if_neg h1, if_pos h8]
      by_cases h2 : n < p + 2
      · exact .inr (.inr (.inl ⟨by omega, h2, h8, by rw [if_pos h2]⟩))
      · rw [if_neg h2]
        by_cases h3 : (m : Int) < f (p + 1)
        · exact .inr (.inr (.inr (.inl ⟨by omega, h8, h3, by rw [if_pos h3]⟩)))
        · rw [if_neg h3]
          obtain ⟨j, hj⟩ := Int.eq_ofNat_of_zero_le (hf (p + 1) (by omega))
          refine .inr (.inr (.inr (.inr ⟨j, by omega, h8, hj, by omega, ?_⟩)))
          rw [hj, Int.toNat_natCast, fl_fuel f n hf m (m - j) (m - j) (p + 2) (by omega) (by omega)]
          by_cases h4 : (flGo f n (m - j) (m - j) (p + 2)).e ≠ 0
          · rw [if_pos h4]; exact ⟨rfl, fun h => absurd h h4⟩
          · rw [if_neg h4]; exact ⟨(Decidable.not_not.1 h4).symm, fun _ => ⟨rfl, rfl⟩⟩
    · rw [if_neg h1, if_neg h8]
      refine .inr (.inl ⟨by omega, h8, ?_⟩)
      by_cases h4 : (flGo f n m m (p + 1)).e ≠ 0
      · rw [if_pos h4]; exact ⟨rfl, fun h => absurd h h4⟩
      · rw [if_neg h4]; exact ⟨(Decidable.not_not.1 h4).symm, fun _ => ⟨rfl, rfl⟩⟩
end Go.Proofs.Ytcjjcjpkmjbfkaa

/-
  The law's last step for whatever parameters: what came in reads as it did (the kit's 'Trod_stays'); slices of whole numbers that came in, opened.
-/
namespace Go.Proofs.Ytcjjcjpkmjbfkaa
open Go.RowKit Go.ChangeShapes Go.WideShapes

section
variable {H : Type} {enc : TypeId × Value → H} {P : Program}
theorem all_stays (hl : laidOutB P = true) {W W' : World} {sp : Nat → Bool} : ∀ {ts : List TypeId} {vs : List Value} {ds : List (DataW H)} {ps : List MemPlace}, (∀ t ∈ ts, P.readableRec t = true ∧ t < P.types.size) →
    DataW.TrodAll enc P W 0 (fun _ => true) true ts vs ds ps → (∀ p ∈ ps, W.sameAt W' p) → (∀ p ∈ ps, sp p.block = true) → DataW.TrodAll enc P W' 0 sp true ts vs ds ps
  | [], [], [], _, _, h, _, _ => h
  | [], _ :: _, _, _, _, h, _, _ => by cases h
  | [], [], _ :: _, _, _, h, _, _ => by cases h
  | _ :: _, [], _, _, _, h, _, _ => by cases h
  | _ :: _, _ :: _, [], _, _, h, _, _ => by cases h
  | t :: ts, v :: vs, d :: ds, ps, ht, h, hs, hp => by
    obtain ⟨p, q, h1, h2, rfl⟩ := h
    exact ⟨p, q, WideElems.Trod_stays hl (ht t (by simp)).1 (ht t (by simp)).2 h1 (fun x hx => hs x (by simp [hx])) (fun x hx => hp x (by simp [hx])),
      all_stays hl (fun t' h' => ht t' (by simp [h'])) h2 (fun x hx => hs x (by simp [hx])) (fun x hx => hp x (by simp [hx])), rfl⟩
/-- The law's last step: it answers true, and all that was there is as it was. -/
theorem post_true {f : Func} {s : ChangeSpec} {apart fresh handsOn again : Bool} {W W' : World} {args : Array Value} {ds : List (DataW H)} {before : List MemPlace} {tb : TypeId}
    (hl : laidOutB P = true) (hts : f.params.toList.all (fun t => P.readableRec t && decide (t < P.types.size)) = true)
    (hW : DataW.Whole enc P f.params.toList s.vars apart W args.toList ds [] before) (hv : s.vars = []) (hr : f.resultTypes = #[tb]) (hb : P.underlying tb = some .bool)
    (h1 : (s.fn H (ds ++ [])).results = [.lit (.bool true)]) (h2 : (s.fn H (ds ++ [])).args = ds) (h3 : (s.fn H (ds ++ [])).vars = []) (hS : Since W W') :
    s.post enc P f apart fresh handsOn again W args (.bool true) W' := by
  have hW0 := hW
  obtain ⟨p, q, hA, hV, rfl, _, _⟩ := hW
  rw [hv] at hV
  obtain ⟨_, rfl⟩ := trodVars_none hV
  simp only [List.append_nil] at hW0
  have hlt : ∀ x ∈ p, x.block < W.heap.size := fun x hx => hW0.lt x hx
  have hq : ∀ t ∈ f.params.toList, P.readableRec t = true ∧ t < P.types.size := fun t ht => by
    have := List.all_eq_true.1 hts t ht
    simpa using this
  refine post_since (pa := p) (pv := []) hW0 (fun _ _ _ => ?_) (fun sp hsp => ?_) (fun sp hsp => ?_) (by simp) hS ?_
  · rw [h1, hr]
    exact trodAll_cons_mk (shut_bool hb _) trodAll_mk0
  · rw [h2]
    exact all_stays hl hq hA (fun x hx => hS.below.same (hlt x hx)) (fun x hx => hsp x hx)
  · rw [h3, hv]; rfl
  · exact ok_one hr rfl (okWide_bool_mk hb _)
end

section
variable {H : Type} {enc : TypeId × Value → H} {P : Program} {W : World}
/-- A slice of whole numbers that came in. -/
theorem open_rd {t e : TypeId} {k : IntKind} {r : Reach} {b0 : Nat} {v : Value} {d : DataW H} {ps : List MemPlace} (ht : P.underlying t = some (.slice e)) (he : P.underlying e = some (.int k)) (hc : P.cellsOf e = 1)
    (hval : Value.okWide P W r b0 t v) (h : DataW.Trod enc P W 0 (fun _ => true) true t v d ps) (hlt : ∀ x ∈ ps, x.block < W.heap.size) :
    ∃ A n c f, v = .slice A n c ∧ n ≤ c ∧ c ≤ maxLen ∧ Rd W W.heap.size A n (IntRow k f) ∧ (∀ j, j < n → (Lit.int k (f j)).wf = true) ∧ (c = 0 ∨ ∃ el sp, d = .slice el sp ∧ el.length + sp.length = c) := by
  obtain ⟨A, n, c, rfl⟩ := okWide_slice ht hval
  obtain ⟨fuel, hf⟩ := h
  rcases open_ints ht he hc hf with ⟨hcs, hx⟩ | ⟨a, len, cap, zs, hcs, _, hl, hm, hz, hx, hcell, hwz⟩
  · simp [Value.cells] at hcs
    obtain ⟨rfl, rfl, rfl⟩ := hcs
    exact ⟨none, 0, 0, fun _ => 0, rfl, Nat.le_refl _, Nat.zero_le _, Rd.zero, fun j hj => absurd hj (by omega), .inl rfl⟩
  · simp [Value.cells] at hcs
    obtain ⟨rfl, rfl, rfl⟩ := hcs
    simp only [if_true] at hz
    simp only [Prod.mk.injEq] at hx
    obtain ⟨rfl, rfl⟩ := hx
    refine ⟨some a, n, c, fun j => zs.getD j 0, rfl, hl, hm, fun hn => ?_, fun j hj => ?_, .inr ⟨_, _, rfl, ?_⟩⟩
    · have hspot : a.spot = none := by
        have h0 := hcell 0 (by omega)
        cases hsp : a.spot with
        | none => rfl
        | some s =>
          have e : (a.add 0).spot = some s := by unfold Addr.add; split <;> simp_all
          simp only [World.cell?] at h0
          split at h0
          · simp [e] at h0
          · cases h0
      obtain ⟨b, o, s⟩ := a
      simp only at hspot
      subst hspot
      refine ⟨b, o, rfl, hlt (.cell b (o + 0)) (MemPlace.mem_row.2 ⟨0, by omega, rfl⟩), fun j hj => ?_⟩
      have := hcell j (by omega)
      rw [← add_plain]
      exact this
    · have hj' : j < zs.length := by omega
      have : zs.getD j 0 = zs[j] := by simp [List.getD, hj']
      show (Lit.int k (zs.getD j 0)).wf = true
      rw [this]
      exact hwz _ (List.getElem_mem hj')
    · simp [lits]; omega
theorem wf_u8 {x : Int} (h : (Lit.int .u8 x).wf = true) : 0 ≤ x ∧ x ≤ 255 := by
  simpa [Lit.wf, IntKind.min, IntKind.max, IntKind.signed, IntKind.bits] using h
theorem wf_i64 {a : Int} (h : (Lit.int .i64 a).wf = true) : In64 a := by
  have h : -9223372036854775808 ≤ a ∧ a ≤ 9223372036854775807 := by simpa [Lit.wf, IntKind.min, IntKind.max, IntKind.signed, IntKind.bits] using h
  unfold In64; omega
end
end Go.Proofs.Ytcjjcjpkmjbfkaa

/-
  A value of several cells that came in (a struct, an array, one in the other), opened cell by cell.
-/
namespace Go.Proofs.Ytcjjcjpkmjbfkaa
open Go.RowKit Go.ChangeShapes Go.WideShapes

/-- The type of a type's cell j: of one cell itself. -/
def leafAt (P : Program) : Nat → TypeId → Nat → Option TypeId
  | 0, _, _ => none
  | n + 1, t, j => match P.underlying t with
    | some (.struct fs) => (fs.toList.find? (fun f => decide (f.offset ≤ j ∧ j < f.offset + P.cellsOf f.type))).bind fun f => leafAt P n f.type (j - f.offset)
    | some (.array k e) => if 0 < P.cellsOf e ∧ j / P.cellsOf e < k then leafAt P n e (j % P.cellsOf e) else none
    | some .bool | some (.int _) | some .string | some (.slice _) => if j = 0 then some t else none
    | _ => none
section
variable {H : Type} {enc : TypeId × Value → H} {P : Program} {W : World} {base : Nat} {sp : Nat → Bool} {held : Bool}
theorem one_cell {t : TypeId} {m : Nat} {cs : List Value} {x : DataW H × List MemPlace} (h : DataW.trod enc P W base sp held m t cs = some x)
    (hk : P.underlying t = some .bool ∨ (∃ k, P.underlying t = some (.int k)) ∨ P.underlying t = some .string ∨ (∃ e, P.underlying t = some (.slice e))) : ∃ v, cs = [v] := by
  cases m with
  | zero => simp [DataW.trod] at h
  | succ m =>
    unfold DataW.trod at h
    rcases hk with hk | ⟨k, hk⟩ | hk | ⟨e, hk⟩ <;> rw [hk] at h <;> (split at h <;> first | (simp_all; done) | exact ⟨_, rfl⟩)
theorem leaf_at : ∀ (n : Nat) (t t' : TypeId) (j : Nat), leafAt P n t j = some t' → ∀ (m : Nat) (cs : List Value) (x : DataW H × List MemPlace), DataW.trod enc P W base sp held m t cs = some x →
    ∃ v m' y, cs[j]? = some v ∧ DataW.trod enc P W base sp held m' t' [v] = some y ∧ ∀ p ∈ y.2, p ∈ x.2 := by
  intro n
  induction n with
  | zero => intro t t' j h; simp [leafAt] at h
  | succ n ih =>
    intro t t' j h m cs x hx
    unfold leafAt at h
    split at h
    · rename_i fs hu
      rw [Option.bind_eq_some_iff] at h
      obtain ⟨f, hf, hl⟩ := h
      have hmem := List.mem_of_find?_eq_some hf
      have hp := List.find?_some hf
      simp only [decide_eq_true_eq] at hp
      obtain ⟨i, hi⟩ := List.getElem?_of_mem hmem
      obtain ⟨xs, m1, rfl, rfl, hlen, hxs, hall⟩ := DataW.trod_struct hu hx
      have hi' : fs[i]? = some f := by simpa using hi
      have hget := hall i f hi'
      have hil : i < xs.length := by
        rw [hxs]
        have := (List.getElem?_eq_some_iff.1 hi).1
        simpa using this
      rw [List.getElem?_eq_getElem hil] at hget
      obtain ⟨v, m', y, h1, h2, h3⟩ := ih _ _ _ hl _ _ _ hget
      refine ⟨v, m', y, ?_, h2, fun p hpm => ?_⟩
      · rw [List.getElem?_take, if_pos (by omega), List.getElem?_drop, show f.offset + (j - f.offset) = j by omega] at h1
        exact h1
      · exact List.mem_flatMap.2 ⟨xs[i], List.getElem_mem hil, h3 p hpm⟩
    · rename_i k e hu
      split at h
      · rename_i hc
        obtain ⟨xs, m1, rfl, rfl, hlen, hxs, hall⟩ := DataW.trod_array hu hx
        have hget := hall (j / P.cellsOf e) hc.2
        have hil : j / P.cellsOf e < xs.length := by omega
        rw [List.getElem?_eq_getElem hil] at hget
        obtain ⟨v, m', y, h1, h2, h3⟩ := ih _ _ _ h _ _ _ hget
        refine ⟨v, m', y, ?_, h2, fun p hpm => ?_⟩
        · rw [List.getElem?_take, if_pos (Nat.mod_lt _ hc.1), List.getElem?_drop, show j / P.cellsOf e * P.cellsOf e + j % P.cellsOf e = j from Nat.div_add_mod' j _] at h1
          exact h1
        · exact List.mem_flatMap.2 ⟨xs[j / P.cellsOf e], List.getElem_mem hil, h3 p hpm⟩
      · cases h
    all_goals first
      | (rename_i hu; split at h
         · rename_i h0; subst h0; injection h with h; subst h
           obtain ⟨v, rfl⟩ := one_cell hx (by first | exact .inl hu | exact .inr (.inl ⟨_, hu⟩) | exact .inr (.inr (.inl hu)) | exact .inr (.inr (.inr ⟨_, hu⟩)))
           exact ⟨v, m, x, rfl, hx, fun _ hp => hp⟩
         · cases h)
      | cases h
theorem leaf_int {n : Nat} {t t' : TypeId} {j : Nat} {k : IntKind} (hl : leafAt P n t j = some t') (hk : P.underlying t' = some (.int k)) {v : Value} {d : DataW H} {ps : List MemPlace} (h : DataW.Trod enc P W base sp held t v d ps) :
    ∃ a, v.cells[j]? = some (.int k a) ∧ (Lit.int k a).wf = true := by
  obtain ⟨m, hm⟩ := h
  obtain ⟨u, m', y, h1, h2, _⟩ := leaf_at n t t' j hl m _ _ hm
  obtain ⟨a, e, _, hw⟩ := DataW.trod_int hk h2
  injection e with e
  subst e
  exact ⟨a, by simpa using h1, hw⟩
theorem leaf_bool {n : Nat} {t t' : TypeId} {j : Nat} (hl : leafAt P n t j = some t') (hk : P.underlying t' = some .bool) {v : Value} {d : DataW H} {ps : List MemPlace} (h : DataW.Trod enc P W base sp held t v d ps) :
    ∃ a, v.cells[j]? = some (.bool a) := by
  obtain ⟨m, hm⟩ := h
  obtain ⟨u, m', y, h1, h2, _⟩ := leaf_at n t t' j hl m _ _ hm
  obtain ⟨a, e, _⟩ := DataW.trod_bool hk h2
  injection e with e
  subst e
  exact ⟨a, by simpa using h1⟩
theorem okWide_agg {r : Reach} {b0 : Nat} {t : TypeId} {v : Value} (hu : (match P.underlying t with | some (.struct _) | some (.array _ _) => true | _ => false) = true) (h : Value.okWide P W r b0 t v) : ∃ cs, v = .agg cs ∧ cs.size = P.cellsOf t := by
  unfold Value.okWide at h
  split at h
  · obtain ⟨cs, h1, h2, _⟩ := h; exact ⟨cs, h1, h2⟩
  · obtain ⟨cs, h1, h2, _⟩ := h; exact ⟨cs, h1, h2⟩
  · rename_i h1 h2
    split at hu
    · rename_i e; exact absurd e (h1 _)
    · rename_i e; exact absurd e (h2 _ _)
    · cases hu
theorem agg_cells {cs : Array Value} {l : List Value} (hs : cs.size = l.length) (h : ∀ i, i < l.length → cs[i]? = l[i]?) : cs = l.toArray := by
  apply Array.ext
  · simpa using hs
  · intro i h1 h2
    have := h i (by omega)
    rw [Array.getElem?_eq_getElem h1] at this
    simp only [List.size_toArray] at h2
    rw [List.getElem?_eq_getElem h2] at this
    simpa using this
end
end Go.Proofs.Ytcjjcjpkmjbfkaa
