/-
  Words of this proof's own for what a call leaves of the world: 'Since w w2': all that was there reads as it did, and nothing has gone.
-/
import Derived.Test.YtcfghkphkmoikaaGreatRows
import Derived.WalkKit
import Derived.ProofKit
import Derived.OpenShut
import Derived.Laws.ResultCell
import Derived.Deep.RegionHeld3
import Derived.Lib.Hide
import Derived.Deep.Draws
namespace Go.Proofs.YtcfghkphkmoikaaGreat
set_option maxRecDepth 100000
open Go.RowKit Go.ChangeShapes Go.WideShapes

def Since (w w' : World) : Prop := (∀ b o, b < w.heap.size → w'.cell? ⟨b, o, none⟩ = w.cell? ⟨b, o, none⟩) ∧ (∀ b o, b < w.heap.size → w'.frozen? ⟨b, o, none⟩ = w.frozen? ⟨b, o, none⟩) ∧ (∀ k, k < w.heap.size → k < w'.heap.size) ∧ Below w.heap.size w w'

theorem since_of {w w' : World} (h : Below w.heap.size w w') : Since w w' :=
  ⟨fun b o hb => h.cell (p := ⟨b, o, none⟩) hb, fun b o hb => h.frozen (p := ⟨b, o, none⟩) hb, fun _ hk => Nat.lt_of_lt_of_le hk h.size, h⟩
theorem Since.below {w w' : World} (h : Since w w') : Below w.heap.size w w' := h.2.2.2
theorem Since.refl (w : World) : Since w w := since_of (Below.refl _ _)
theorem Since.trans {a b c : World} (h : Since a b) (k : Since b c) : Since a c := since_of (h.below.trans (k.below.mono h.below.size))
theorem Since.drew {a w : World} (h : Since a w) : Since a w.drew := since_of h.below.drew
theorem Since.alloc {a w : World} (h : Since a w) (o : Obj) : Since a (w.alloc o) := since_of (h.below.alloc h.below.size o)
theorem Since.setCell {a w : World} (h : Since a w) {p : Addr} (hp : a.heap.size ≤ p.block) (u : Value) : Since a (w.setCell p u) := since_of (h.below.setCell hp u)
theorem Since.drewN {a w : World} (h : Since a w) (n : Nat) : Since a (w.drewN n) := since_of ⟨h.below.os, h.below.tape, h.below.output, h.below.size, h.below.block⟩
/-- What a step kept, in the four parts that the walk uses as rules. -/
theorem since_step {w0 w1 w2 : World} (h : (∀ b o, b < w0.heap.size → w1.cell? ⟨b, o, none⟩ = w0.cell? ⟨b, o, none⟩) ∧ (∀ b o, b < w0.heap.size → w1.frozen? ⟨b, o, none⟩ = w0.frozen? ⟨b, o, none⟩) ∧ (∀ k, k < w0.heap.size → k < w1.heap.size) ∧ Below w0.heap.size w0 w1) (k : Since w1 w2) :
    (∀ b o, b < w0.heap.size → w2.cell? ⟨b, o, none⟩ = w0.cell? ⟨b, o, none⟩) ∧ (∀ b o, b < w0.heap.size → w2.frozen? ⟨b, o, none⟩ = w0.frozen? ⟨b, o, none⟩) ∧ (∀ k, k < w0.heap.size → k < w2.heap.size) ∧ Below w0.heap.size w0 w2 := Since.trans h k
theorem since_put {w0 w1 : World} (h : (∀ b o, b < w0.heap.size → w1.cell? ⟨b, o, none⟩ = w0.cell? ⟨b, o, none⟩) ∧ (∀ b o, b < w0.heap.size → w1.frozen? ⟨b, o, none⟩ = w0.frozen? ⟨b, o, none⟩) ∧ (∀ k, k < w0.heap.size → k < w1.heap.size) ∧ Below w0.heap.size w0 w1) {p : Addr} (hp : w0.heap.size ≤ p.block) (v : Value) :
    (∀ b o, b < w0.heap.size → (w1.setCell p v).cell? ⟨b, o, none⟩ = w0.cell? ⟨b, o, none⟩) ∧ (∀ b o, b < w0.heap.size → (w1.setCell p v).frozen? ⟨b, o, none⟩ = w0.frozen? ⟨b, o, none⟩) ∧ (∀ k, k < w0.heap.size → k < (w1.setCell p v).heap.size) ∧ Below w0.heap.size w0 (w1.setCell p v) := since_of (h.2.2.2.setCell hp v)
/-- The world under a name, and what the name stands for. -/
theorem wp_named {P : Program} {c : Code} {Q : Exit → Act → World → Prop} {a : Act} {w : World} (h : ∀ w0, w0 = w → c.wp P Q a w0) : c.wp P Q a w := h w rfl

/-- A cell behind a store, whatever the store: by the two addresses' numbers. -/
theorem cell_set (w : World) (b o b' o' : Nat) (v : Value) : (w.setCell ⟨b, o, none⟩ v).cell? ⟨b', o', none⟩ = if b = b' ∧ o = o' then (w.cell? ⟨b', o', none⟩).map (fun _ => v) else w.cell? ⟨b', o', none⟩ := by
  split
  · rename_i h
    obtain ⟨rfl, rfl⟩ := h
    cases hc : w.cell? ⟨b, o, none⟩ with
    | some u => rw [Option.map_some]; exact World.cell?_setCell_same _ _ _ hc
    | none =>
      rw [Option.map_none]
      unfold World.cell? at hc ⊢
      simp only [World.setCell, Array.getElem?_modify, ↓reduceIte, Option.isSome_none, Bool.false_eq_true] at hc ⊢
      cases hh : w.heap[b]? with
      | none => simp
      | some x =>
        rw [hh] at hc
        cases x <;> simp_all
  · rename_i h
    exact World.cell?_setCell_other w ⟨b, o, none⟩ ⟨b', o', none⟩ v (fun e => h (by injection e; exact ⟨‹_›, ‹_›⟩))

attribute [go_sem] cell_set
theorem map_there {o : Option Value} {v : Value} (h : o.isSome = true) : o.map (fun _ => v) = some v := by cases o <;> simp_all
attribute [go_sem] map_there
theorem there_of {o : Option Value} {v : Value} (h : o = some v) : o.isSome = true := by rw [h]; rfl
theorem there_set (w : World) (b o b' o' : Nat) (v : Value) : ((w.setCell ⟨b, o, none⟩ v).cell? ⟨b', o', none⟩).isSome = (w.cell? ⟨b', o', none⟩).isSome := by
  rw [cell_set]
  split
  · rw [Option.isSome_map]
  · rfl
/-- What a cell that is there holds, under a name. -/
def cellD (w : World) (r o : Nat) : Value := (w.cell? ⟨r, o, none⟩).getD undef
theorem cellD_of {w : World} {r o : Nat} (h : (w.cell? ⟨r, o, none⟩).isSome = true) : w.cell? ⟨r, o, none⟩ = some (cellD w r o) := by
  unfold cellD; cases hc : w.cell? ⟨r, o, none⟩ with
  | none => rw [hc] at h; cases h
  | some u => rfl
theorem sr_start {r m : Nat} {w0 : World} (h : ∀ o, o < m → (w0.cell? ⟨r, o, none⟩).isSome = true) : (∀ b o, b < r → w0.cell? ⟨b, o, none⟩ = w0.cell? ⟨b, o, none⟩) ∧ (∀ b o, b < w0.heap.size → w0.frozen? ⟨b, o, none⟩ = w0.frozen? ⟨b, o, none⟩) ∧ (∀ k, k < w0.heap.size → k < w0.heap.size) ∧ Below r w0 w0 ∧ (∀ o, o < m → w0.cell? ⟨r, o, none⟩ = some (cellD w0 r o)) :=
  ⟨fun _ _ _ => rfl, fun _ _ _ => rfl, fun _ h => h, Below.refl _ _, fun o ho => cellD_of (h o ho)⟩
theorem sr_step {r m : Nat} {w0 w1 w2 : World} (hr : r < w0.heap.size) (h : (∀ b o, b < r → w1.cell? ⟨b, o, none⟩ = w0.cell? ⟨b, o, none⟩) ∧ (∀ b o, b < w0.heap.size → w1.frozen? ⟨b, o, none⟩ = w0.frozen? ⟨b, o, none⟩) ∧ (∀ k, k < w0.heap.size → k < w1.heap.size) ∧ Below r w0 w1 ∧ (∀ o, o < m → w1.cell? ⟨r, o, none⟩ = some (cellD w1 r o))) (k : Since w1 w2) :
    (∀ b o, b < r → w2.cell? ⟨b, o, none⟩ = w0.cell? ⟨b, o, none⟩) ∧ (∀ b o, b < w0.heap.size → w2.frozen? ⟨b, o, none⟩ = w0.frozen? ⟨b, o, none⟩) ∧ (∀ k, k < w0.heap.size → k < w2.heap.size) ∧ Below r w0 w2 ∧ (∀ o, o < m → w2.cell? ⟨r, o, none⟩ = some (cellD w2 r o)) := by
  obtain ⟨h1, h2, h3, h4, h5⟩ := h
  exact ⟨fun b o hb => (k.1 b o (h3 b (by omega))).trans (h1 b o hb), fun b o hb => (k.2.1 b o (h3 b hb)).trans (h2 b o hb), fun j hj => k.2.2.1 j (h3 j hj), h4.trans (k.below.mono (Nat.le_of_lt (h3 r hr))), fun o ho => cellD_of (by rw [k.1 r o (h3 r hr), h5 o ho]; rfl)⟩
theorem sr_set {r m : Nat} {w0 w1 : World} (h : (∀ b o, b < r → w1.cell? ⟨b, o, none⟩ = w0.cell? ⟨b, o, none⟩) ∧ (∀ b o, b < w0.heap.size → w1.frozen? ⟨b, o, none⟩ = w0.frozen? ⟨b, o, none⟩) ∧ (∀ k, k < w0.heap.size → k < w1.heap.size) ∧ Below r w0 w1 ∧ (∀ o, o < m → w1.cell? ⟨r, o, none⟩ = some (cellD w1 r o))) (j : Nat) (v : Value) :
    (∀ b o, b < r → (w1.setCell ⟨r, j, none⟩ v).cell? ⟨b, o, none⟩ = w0.cell? ⟨b, o, none⟩) ∧ (∀ b o, b < w0.heap.size → (w1.setCell ⟨r, j, none⟩ v).frozen? ⟨b, o, none⟩ = w0.frozen? ⟨b, o, none⟩) ∧ (∀ k, k < w0.heap.size → k < (w1.setCell ⟨r, j, none⟩ v).heap.size) ∧ Below r w0 (w1.setCell ⟨r, j, none⟩ v) ∧ (∀ o, o < m → (w1.setCell ⟨r, j, none⟩ v).cell? ⟨r, o, none⟩ = some (cellD (w1.setCell ⟨r, j, none⟩ v) r o)) := by
  obtain ⟨h1, h2, h3, h4, h5⟩ := h
  refine ⟨fun b o hb => ?_, fun b o hb => (World.frozen?_setCell _ _ _ _).trans (h2 b o hb), fun k hk => by simpa [World.setCell] using h3 k hk, h4.setCell (Nat.le_refl _) _, fun o ho => ?_⟩
  · rw [cell_set, if_neg (by omega)]; exact h1 b o hb
  · refine cellD_of ?_
    rw [cell_set, h5 o ho]
    split <;> rfl
theorem sr_out {r : Nat} {w w0 w1 : World} (h : Below r w0 w1) (k : Since w w0) (hr : w.heap.size ≤ r) : Since w w1 := since_of (k.below.trans (h.mono hr))

/-- Block b's first n cells hold f, and none is frozen. -/
def Row (w : World) (b n : Nat) (f : Nat → Value) : Prop := (∀ j, j < n → w.cell? ⟨b, j, none⟩ = some (f j)) ∧ (∀ j, w.frozen? ⟨b, j, none⟩ = false) ∧ b < w.heap.size
section
variable {w w' : World} {b n : Nat} {f g : Nat → Value}
theorem Row.of_cells {cs : Array Value} {t : TypeId} (h : ∀ j, j < n → cs[j]? = some (f j)) : Row (w.alloc (.cells cs t)) w.heap.size n f := by
  refine ⟨fun j hj => ?_, fun j => ?_, by simp⟩
  · rw [World.cell?_alloc_new]; exact h j hj
  · rw [frozen?_alloc_cells]; simp [World.frozen?]
theorem Row.congr (h : Row w b n f) (e : ∀ j, j < n → f j = g j) : Row w b n g := ⟨fun j hj => by rw [h.1 j hj, e j hj], h.2⟩
theorem Row.drew (h : Row w b n f) : Row w.drew b n f := h
theorem Row.drewN (h : Row w b n f) (k : Nat) : Row (w.drewN k) b n f := h
theorem Row.alloc (h : Row w b n f) (o : Obj) : Row (w.alloc o) b n f :=
  ⟨fun j hj => (World.cell?_alloc_lt w o ⟨b, j, none⟩ h.2.2).trans (h.1 j hj), fun j => (World.frozen?_alloc_old w o ⟨b, j, none⟩ (Nat.ne_of_lt h.2.2)).trans (h.2.1 j), by have := h.2.2; simp; omega⟩
theorem Row.since (h : Row w b n f) (k : Since w w') : Row w' b n f := ⟨fun j hj => (k.1 b j h.2.2).trans (h.1 j hj), fun j => (k.2.1 b j h.2.2).trans (h.2.1 j), k.2.2.1 b h.2.2⟩
theorem Row.far (h : Row w b n f) {b' : Nat} (hb : b' ≠ b) (o : Nat) (v : Value) : Row (w.setCell ⟨b', o, none⟩ v) b n f :=
  ⟨fun j hj => by rw [cell_set, if_neg (fun e => hb e.1)]; exact h.1 j hj, fun j => (World.frozen?_setCell _ _ _ _).trans (h.2.1 j), by simpa [World.setCell] using h.2.2⟩
theorem Row.set (h : Row w b n f) (i : Nat) (v : Value) : Row (w.setCell ⟨b, i, none⟩ v) b n (fun j => if j = i then v else f j) := by
  refine ⟨fun j hj => ?_, fun j => (World.frozen?_setCell _ _ _ _).trans (h.2.1 j), by simpa [World.setCell] using h.2.2⟩
  rw [cell_set]
  by_cases e : j = i
  · subst e; rw [if_pos ⟨rfl, rfl⟩, h.1 j hj]; simp
  · rw [if_neg (fun x => e x.2.symm), h.1 j hj]; simp [e]
end

section
variable {H : Type} {enc : TypeId × Value → H} {P : Program}
/-- The law's last step where the call left all that was there as it was. -/
theorem post_since {f : Func} {s : ChangeSpec} {apart fresh handsOn again : Bool} {W W' : World} {args : Array Value} {v : Value} {ds gs : List (DataW H)} {before pa pv : List MemPlace}
    (hW : DataW.Whole enc P f.params.toList s.vars apart W args.toList ds gs before)
    (hres : ∀ (b : Nat) (sp : Nat → Bool) (hd : Bool), DataW.TrodAll enc P W' b sp hd f.resultTypes.toList (v.resultList f.resultTypes.size) (s.fn H (ds ++ gs)).results [])
    (hargs : ∀ sp : Nat → Bool, (∀ p ∈ before, sp p.block = true) → DataW.TrodAll enc P W' 0 sp true f.params.toList args.toList (s.fn H (ds ++ gs)).args pa)
    (hvars : ∀ sp : Nat → Bool, (∀ p ∈ before, sp p.block = true) → DataW.TrodVars enc P W' sp s.vars (s.fn H (ds ++ gs)).vars pv)
    (hps : before = pa ++ pv) (hb : Since W W')
    (hok : ∀ (j : Nat) (t : TypeId) (r : Value), f.resultTypes[j]? = some t → (v.resultList f.resultTypes.size)[j]? = some r → Value.okWide P W' .any 0 t r) :
    s.post enc P f apart fresh handsOn again W args v W' := by
  have B := hb.below
  have old : ∀ p ∈ before, p.block < W.heap.size := fun p hp => hW.lt p hp
  have kept : ∀ p ∈ before, (fun b => decide (b < W.heap.size)) p.block = true := fun p hp => by simpa using old p hp
  refine ⟨ds, gs, before, [], pa, pv, hW, hres _ _ _, hargs _ kept, hvars _ kept, World.keptBut_mono (fun p hp => ⟨hp, ?_⟩) (B.frame (· ∈ before)), fun _ => ?_⟩
  · rw [hps, List.mem_append] at hp
    exact Or.inr hp
  · obtain ⟨_, _, _, _, _, hz, hn⟩ := hW
    refine ⟨hok, _, _, ([] ++ pa) ++ pv, ⟨[] ++ pa, pv, trodAll_append (hargs _ (fun _ _ => rfl)) (hres _ _ _), hvars _ (fun _ _ => rfl), rfl, ?_, ?_⟩, ?_⟩
    · intro b off hp
      have inb : MemPlace.cell b off ∈ before := by rw [hps]; simpa using hp
      rw [B.frozen (old _ inb)]
      exact hz b off inb
    · intro ha
      have := hn ha
      rw [hps] at this
      simpa using this
    · intro p hp _
      rw [hps]
      simpa using hp
end
end Go.Proofs.YtcfghkphkmoikaaGreat
