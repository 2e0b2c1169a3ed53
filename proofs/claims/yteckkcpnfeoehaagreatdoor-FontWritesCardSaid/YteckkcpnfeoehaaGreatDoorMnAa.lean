/-
  Texts of this seat, put together: each with its own head.
-/
import Derived.Test.YteckkcpnfeoehaaGreatDoorRows
import Derived.WalkKit
import Derived.ProofKit
import Derived.OpenShut
import Derived.Laws.ResultCell
import Derived.Deep.RegionHeld3
import Derived.Lib.Hide
import Derived.Deep.Draws
import Derived.Laws.OwnMore
import Derived.Laws.BytesArg
import Derived.Maps.AppendAt
import Derived.Deep.AppendLies
import Derived.Laws.CopyOwn
import Derived.OwnWalk
import Derived.Carry
import Derived.SizedLaws

/-
  Words of this proof's own for what a call leaves of the world: 'Since w w2': all that was there reads as it did, and nothing has gone.
-/
namespace Go.Proofs.YteckkcpnfeoehaaGreatDoor
set_option maxRecDepth 100000
open Go.RowKit Go.ChangeShapes Go.WideShapes

def Since (w w' : World) : Prop := (∀ b o, b < w.heap.size → w'.cell? ⟨b, o, none⟩ = w.cell? ⟨b, o, none⟩) ∧ (∀ b o, b < w.heap.size → w'.frozen? ⟨b, o, none⟩ = w.frozen? ⟨b, o, none⟩) ∧ (∀ k, k < w.heap.size → k < w'.heap.size) ∧ Below w.heap.size w w'

theorem since_of {w w' : World} (h : Below w.heap.size w w') : Since w w' :=
  ⟨fun b o hb => h.cell (p := ⟨b, o, none⟩) hb, fun b o hb => h.frozen (p := ⟨b, o, none⟩) hb, fun _ hk => Nat.lt_of_lt_of_le hk h.size, h⟩
theorem Since.below {w w' : World} (h : Since w w') : Below w.heap.size w w' := h.2.2.2
theorem Since.refl (w : World) : Since w w := since_of (Below.refl _ _)
theorem Since.trans {a b c : World} (h : Since a b) (k : Since b c) : Since a c := since_of (h.below.trans (k.below.mono h.below.size))
theorem Since.drew {a w : World} (h : Since a w) : Since a w.drew := since_of h.below.drew
theorem Since.alloc {a w : World} (h : Since a w) (o : Obj) : Since a (w.alloc o) := since_of (h.below.alloc h.below.size o)
theorem Since.setCell {a w : World} (h : Since a w) {p : Addr} (hp : a.heap.size ≤ p.block) (u : Value) : Since a (w.setCell p u) := since_of (h.below.setCell hp u)
theorem Since.drewN {a w : World} (h : Since a w) (n : Nat) : Since a (w.drewN n) := since_of ⟨h.below.os, h.below.tape, h.below.output, h.below.size, h.below.block⟩
/-- The world under a name, and what the name stands for. -/
theorem wp_named {P : Program} {c : Code} {Q : Exit → Act → World → Prop} {a : Act} {w : World} (h : ∀ w0, w0 = w → c.wp P Q a w0) : c.wp P Q a w := h w rfl

/-- A cell behind a store, whatever the store: by the two addresses' numbers. -/
theorem cell_set (w : World) (b o b' o' : Nat) (v : Value) : (w.setCell ⟨b, o, none⟩ v).cell? ⟨b', o', none⟩ = if b = b' ∧ o = o' then (w.cell? ⟨b', o', none⟩).map (fun _ => v) else w.cell? ⟨b', o', none⟩ := by
  split
  · rename_i h
    obtain ⟨rfl, rfl⟩ := h
    cases hc : w.cell? ⟨b, o, none⟩ with
    | some u => rw [Option.map_some]; exact World.cell?_setCell_same _ _ _ hc
    | none =>
      rw [Option.map_none]
      unfold World.cell? at hc ⊢
      simp only [World.setCell, Array.getElem?_modify, ↓reduceIte, Option.isSome_none, Bool.false_eq_true] at hc ⊢
      cases hh : w.heap[b]? with
      | none => simp
      | some x =>
        rw [hh] at hc
        cases x <;> simp_all
  · rename_i h
    exact World.cell?_setCell_other w ⟨b, o, none⟩ ⟨b', o', none⟩ v (fun e => h (by injection e; exact ⟨‹_›, ‹_›⟩))

attribute [go_sem] cell_set
theorem map_there {o : Option Value} {v : Value} (h : o.isSome = true) : o.map (fun _ => v) = some v := by cases o <;> simp_all
attribute [go_sem] map_there
/-- Block b's first n cells hold f, and none is frozen. -/
def Row (w : World) (b n : Nat) (f : Nat → Value) : Prop := (∀ j, j < n → w.cell? ⟨b, j, none⟩ = some (f j)) ∧ (∀ j, w.frozen? ⟨b, j, none⟩ = false) ∧ b < w.heap.size
section
variable {w w' : World} {b n : Nat} {f g : Nat → Value}
theorem Row.of_cells {cs : Array Value} {t : TypeId} (h : ∀ j, j < n → cs[j]? = some (f j)) : Row (w.alloc (.cells cs t)) w.heap.size n f := by
  refine ⟨fun j hj => ?_, fun j => ?_, by simp⟩
  · rw [World.cell?_alloc_new]; exact h j hj
  · rw [frozen?_alloc_cells]; simp [World.frozen?]
theorem Row.congr (h : Row w b n f) (e : ∀ j, j < n → f j = g j) : Row w b n g := ⟨fun j hj => by rw [h.1 j hj, e j hj], h.2⟩
theorem Row.drew (h : Row w b n f) : Row w.drew b n f := h
theorem Row.drewN (h : Row w b n f) (k : Nat) : Row (w.drewN k) b n f := h
theorem Row.alloc (h : Row w b n f) (o : Obj) : Row (w.alloc o) b n f :=
  ⟨fun j hj => (World.cell?_alloc_lt w o ⟨b, j, none⟩ h.2.2).trans (h.1 j hj), fun j => (World.frozen?_alloc_old w o ⟨b, j, none⟩ (Nat.ne_of_lt h.2.2)).trans (h.2.1 j), by have := h.2.2; simp; omega⟩
theorem Row.since (h : Row w b n f) (k : Since w w') : Row w' b n f := ⟨fun j hj => (k.1 b j h.2.2).trans (h.1 j hj), fun j => (k.2.1 b j h.2.2).trans (h.2.1 j), k.2.2.1 b h.2.2⟩
theorem Row.far (h : Row w b n f) {b' : Nat} (hb : b' ≠ b) (o : Nat) (v : Value) : Row (w.setCell ⟨b', o, none⟩ v) b n f :=
  ⟨fun j hj => by rw [cell_set, if_neg (fun e => hb e.1)]; exact h.1 j hj, fun j => (World.frozen?_setCell _ _ _ _).trans (h.2.1 j), by simpa [World.setCell] using h.2.2⟩
theorem Row.set (h : Row w b n f) (i : Nat) (v : Value) : Row (w.setCell ⟨b, i, none⟩ v) b n (fun j => if j = i then v else f j) := by
  refine ⟨fun j hj => ?_, fun j => (World.frozen?_setCell _ _ _ _).trans (h.2.1 j), by simpa [World.setCell] using h.2.2⟩
  rw [cell_set]
  by_cases e : j = i
  · subst e; rw [if_pos ⟨rfl, rfl⟩, h.1 j hj]; simp
  · rw [if_neg (fun x => e x.2.symm), h.1 j hj]; simp [e]
end

section
variable {H : Type} {enc : TypeId × Value → H} {P : Program}
/-- The law's last step where the call left all that was there as it was. -/
theorem post_since {f : Func} {s : ChangeSpec} {apart fresh handsOn again : Bool} {W W' : World} {args : Array Value} {v : Value} {ds gs : List (DataW H)} {before pa pv : List MemPlace}
    (hW : DataW.Whole enc P f.params.toList s.vars apart W args.toList ds gs before)
    (hres : ∀ (b : Nat) (sp : Nat → Bool) (hd : Bool), DataW.TrodAll enc P W' b sp hd f.resultTypes.toList (v.resultList f.resultTypes.size) (s.fn H (ds ++ gs)).results [])
    (hargs : ∀ sp : Nat → Bool, (∀ p ∈ before, sp p.block = true) → DataW.TrodAll enc P W' 0 sp true f.params.toList args.toList (s.fn H (ds ++ gs)).args pa)
    (hvars : ∀ sp : Nat → Bool, (∀ p ∈ before, sp p.block = true) → DataW.TrodVars enc P W' sp s.vars (s.fn H (ds ++ gs)).vars pv)
    (hps : before = pa ++ pv) (hb : Since W W')
    (hok : ∀ (j : Nat) (t : TypeId) (r : Value), f.resultTypes[j]? = some t → (v.resultList f.resultTypes.size)[j]? = some r → Value.okWide P W' .any 0 t r) :
    s.post enc P f apart fresh handsOn again W args v W' := by
  have B := hb.below
  have old : ∀ p ∈ before, p.block < W.heap.size := fun p hp => hW.lt p hp
  have kept : ∀ p ∈ before, (fun b => decide (b < W.heap.size)) p.block = true := fun p hp => by simpa using old p hp
  refine ⟨ds, gs, before, [], pa, pv, hW, hres _ _ _, hargs _ kept, hvars _ kept, World.keptBut_mono (fun p hp => ⟨hp, ?_⟩) (B.frame (· ∈ before)), fun _ => ?_⟩
  · rw [hps, List.mem_append] at hp
    exact Or.inr hp
  · obtain ⟨_, _, _, _, _, hz, hn⟩ := hW
    refine ⟨hok, _, _, ([] ++ pa) ++ pv, ⟨[] ++ pa, pv, trodAll_append (hargs _ (fun _ _ => rfl)) (hres _ _ _), hvars _ (fun _ _ => rfl), rfl, ?_, ?_⟩, ?_⟩
    · intro b off hp
      have inb : MemPlace.cell b off ∈ before := by rw [hps]; simpa using hp
      rw [B.frozen (old _ inb)]
      exact hz b off inb
    · intro ha
      have := hn ha
      rw [hps] at this
      simpa using this
    · intro p hp _
      rw [hps]
      simpa using hp
end
end Go.Proofs.YteckkcpnfeoehaaGreatDoor

/-
  Words of this proof's own for slices: 'Rd' (a slice that reads as a function of the place), 'tab' (such a function's list), own rows.
-/
namespace Go.Proofs.YteckkcpnfeoehaaGreatDoor
set_option maxRecDepth 100000
open Go.RowKit

def In64 (n : Int) : Prop := -9223372036854775808 ≤ n ∧ n ≤ 9223372036854775807
def tab (n : Nat) (V : Nat → Value) : List Value := (List.range n).map V
theorem tab_len (n : Nat) (V : Nat → Value) : (tab n V).length = n := by simp [tab]
theorem tab_get (n : Nat) (V : Nat → Value) (j : Nat) : (tab n V)[j]? = if j < n then some (V j) else none := by
  unfold tab
  split
  · rename_i h; simp [h]
  · rename_i h; simp [h]
theorem tab_congr {n : Nat} {V U : Nat → Value} (h : ∀ j, j < n → V j = U j) : tab n V = tab n U := by
  apply List.ext_getElem?
  intro j
  rw [tab_get, tab_get]
  split
  · rw [h j (by assumption)]
  · rfl
theorem tab_zero (V : Nat → Value) : tab 0 V = [] := rfl
theorem tab_append (n m : Nat) (V U : Nat → Value) : tab n V ++ tab m U = tab (n + m) (fun j => if j < n then V j else U (j - n)) := by
  apply List.ext_getElem?
  intro j
  rw [List.getElem?_append, tab_len, tab_get, tab_get, tab_get]
  by_cases h : j < n
  · rw [if_pos h, if_pos h, if_pos (by omega), if_pos h]
  · rw [if_neg h, if_neg h]
    by_cases h2 : j - n < m
    · rw [if_pos h2, if_pos (by omega)]
    · rw [if_neg h2, if_neg (by omega)]
theorem tab_rep (n : Nat) (v : Value) : List.replicate n v = tab n (fun _ => v) := by
  apply List.ext_getElem?
  intro j
  rw [tab_get, List.getElem?_replicate]
def IntRow (k : IntKind) (f : Nat → Int) (j : Nat) : Value := .int k (f j)
theorem tab_ones {n : Nat} {k : IntKind} {f : Nat → Int} : ∀ u ∈ tab n (IntRow k f), u.oneCell' = true := by
  intro u hu
  unfold tab at hu
  rw [List.mem_map] at hu
  obtain ⟨j, _, rfl⟩ := hu
  rfl

/-- A slice's n elements read as V, in a block below B (nil and empty let in). -/
def Rd (w : World) (B : Nat) (A : Option Addr) (n : Nat) (V : Nat → Value) : Prop :=
  0 < n → ∃ b o, A = some ⟨b, o, none⟩ ∧ b < B ∧ ∀ j, j < n → w.cell? ⟨b, o + j, none⟩ = some (V j)
section
variable {w w' : World} {B B' n : Nat} {A : Option Addr} {V U : Nat → Value}
theorem Rd.zero : Rd w B A 0 V := fun h => absurd h (by omega)
theorem Rd.keep (h : Rd w B A n V) (hk : ∀ b o, b < B → w'.cell? ⟨b, o, none⟩ = w.cell? ⟨b, o, none⟩) : Rd w' B A n V := fun hn => by
  obtain ⟨b, o, rfl, hb, hc⟩ := h hn
  exact ⟨b, o, rfl, hb, fun j hj => (hk _ _ hb).trans (hc j hj)⟩
theorem Rd.more (h : Rd w B A n V) (hB : B ≤ B') : Rd w B' A n V := fun hn => by
  obtain ⟨b, o, rfl, hb, hc⟩ := h hn
  exact ⟨b, o, rfl, by omega, hc⟩
theorem Rd.congr (h : Rd w B A n V) (e : ∀ j, j < n → V j = U j) : Rd w B A n U := fun hn => by
  obtain ⟨b, o, rfl, hb, hc⟩ := h hn
  exact ⟨b, o, rfl, hb, fun j hj => (hc j hj).trans (by rw [e j hj])⟩
theorem Rd.since (h : Rd w B A n V) (hB : B ≤ w.heap.size) (k : Since w w') : Rd w' B A n V := h.keep fun b o hb => k.1 b o (by omega)
theorem Rd.on (h : Rd w w.heap.size A n V) (k : Since w w') : Rd w' w'.heap.size A n V := (h.since (Nat.le_refl _) k).more k.below.size
theorem Rd.drew (h : Rd w B A n V) : Rd w.drew B A n V := h
theorem Rd.drewN (h : Rd w B A n V) (k : Nat) : Rd (w.drewN k) B A n V := h
theorem Rd.alloc (h : Rd w B A n V) (hB : B ≤ w.heap.size) (o : Obj) : Rd (w.alloc o) B A n V := h.keep fun b p hb => World.cell?_alloc_lt w o ⟨b, p, none⟩ (show b < w.heap.size by omega)
theorem Rd.setCell (h : Rd w B A n V) {p : Addr} (hB : B ≤ p.block) (u : Value) : Rd (w.setCell p u) B A n V :=
  h.keep fun b o hb => World.cell?_setCell_other w p ⟨b, o, none⟩ u (fun e => by subst e; simp at hB; omega)
theorem Rd.of_row {b : Nat} (h : Row w b n V) : Rd w w.heap.size (some ⟨b, 0, none⟩) n V := fun _ => ⟨b, 0, rfl, h.2.2, fun j hj => by rw [Nat.zero_add]; exact h.1 j hj⟩
/-- The first cells alone; those from a place on, as the walk writes a slice expression. -/
theorem Rd.take (h : Rd w B A n V) {m : Nat} (hm : m ≤ n) : Rd w B A m V := fun h0 => by
  obtain ⟨b, o, rfl, hb, hc⟩ := h (by omega)
  exact ⟨b, o, rfl, hb, fun j hj => hc j (by omega)⟩
theorem Rd.drop (h : Rd w B A n V) {k cap m : Nat} (hk : k + m ≤ n) (hc : n ≤ cap) : Rd w B (if cap = k then A else A.map (·.add k)) m (fun j => V (k + j)) := fun h0 => by
  obtain ⟨b, o, rfl, hb, hcell⟩ := h (by omega)
  rw [if_neg (by omega)]
  refine ⟨b, o + k, ?_, hb, fun j hj => ?_⟩
  · unfold Addr.add; split <;> simp_all
  · rw [Nat.add_assoc]; exact hcell _ (by omega)
/-- An own row's cells. -/
theorem row_of_own {base : Nat} {e : TypeId} {g cap : Nat} (h : w.ownsRow base e 1 (.slice (some ⟨g, 0, none⟩) n cap) n (tab n V)) : Row w g n V := by
  refine ⟨fun j hj => ?_, fun j => h.frozenAt j, ?_⟩
  · rw [h.cellAt j (by omega), tab_get, if_pos hj]
  · rcases h.2 with ⟨e1, _⟩ | ⟨g', c', cur, e1, _, hh, _⟩
    · cases e1
    · injection e1 with e1 _ _
      injection e1 with e1
      injection e1 with e1
      subst e1
      rcases Nat.lt_or_ge g w.heap.size with hlt | hge
      · exact hlt
      · rw [Array.getElem?_eq_none hge] at hh; cases hh
theorem own_base {base : Nat} {e : TypeId} {g cap : Nat} {xs : List Value} (h : w.ownsRow base e 1 (.slice (some ⟨g, 0, none⟩) n cap) n xs) : base ≤ g := by
  rcases h.2 with ⟨e1, _⟩ | ⟨g', c', cur, e1, hb, _⟩
  · cases e1
  · injection e1 with e1 _ _
    injection e1 with e1
    injection e1 with e1
    omega
theorem own_since {base : Nat} {e : TypeId} {v : Value} {xs : List Value} (h : w.ownsRow base e 1 v n xs) (k : Since w w') : w'.ownsRow base e 1 v n xs := by
  refine ⟨h.1, ?_⟩
  rcases h.2 with h0 | ⟨g, cap, cur, e1, hb, hh, r⟩
  · exact .inl h0
  · refine .inr ⟨g, cap, cur, e1, hb, ?_, r⟩
    have hlt : g < w.heap.size := by
      rcases Nat.lt_or_ge g w.heap.size with hlt | hge
      · exact hlt
      · rw [Array.getElem?_eq_none hge] at hh; cases hh
    rw [k.below.block g hlt]; exact hh
theorem since_grown {w0 : World} {row : Option Nat} (h : Since w0 w) (hg : w.grownBy w' row) (hr : ∀ k, row = some k → w0.heap.size ≤ k) : Since w0 w' := since_of (h.below.grown hg h.below.size hr)
end

section
variable {P : Program} (w : World)
/-- append to a row of the call's own that is no nil: of elements that read so, nil and empty let in: the new value written out, and where it lies. -/
theorem run_append_rd (base : Nat) (t ty e : TypeId) (i : TypeInfo) (z : Value) (bytes : Nat) (ht : P.underlying t = some (.slice e)) (hi : P.info? e = some i) (hz : i.zero = some z)
    (hsize : i.size = 1) (hby : i.bytes = bytes) (hzs : z.cells.size = 1) (g cap n : Nat) (xs : List Value) (hown : w.ownsRow base e 1 (.slice (some ⟨g, 0, none⟩) n cap) n xs)
    (B : Nat) (A : Option Addr) (m c : Nat) (V : Nat → Value) (hr : Rd w B A m V) (h1 : ∀ u ∈ tab m V, u.oneCell' = true) (hbytes : (n + m) * bytes ≤ 140737488355328) (h63 : n + m ≤ maxLen) (hbase : base ≤ w.heap.size) :
    ∃ g' cap' w', (Builtin.append_ #[t, t] ty #[.slice (some ⟨g, 0, none⟩) n cap, .slice A m c]).run P w = .ok (.slice (some ⟨g', 0, none⟩) (n + m) cap') w' ∧ w'.ownsRow base e 1 (.slice (some ⟨g', 0, none⟩) (n + m) cap') (n + m) (xs ++ tab m V) ∧ w.grownBy w' (some g) ∧ (g' = g ∨ g' = w.heap.size) := by
  have hcap : n ≤ cap := by
    rcases hown.2 with ⟨e1, _⟩ | ⟨_, _, _, e1, _, _, hnc, _⟩
    · cases e1
    · injection e1 with _ _ e3; omega
  rcases A with _ | ad
  · have hm : m = 0 := by
      rcases Nat.eq_zero_or_pos m with h0 | h0
      · exact h0
      · obtain ⟨b, o, h, _⟩ := hr h0; cases h
    subst hm
    refine ⟨g, cap, w, ?_, by simpa [tab_zero] using hown, World.grownBy.refl w _, .inl rfl⟩
    simp [Builtin.append_, run_underlying ht, sizeOf, typeInfo, hi, Builtin.lenOf, Builtin.firstCells, hcap, storeCells]
  · have hc : ∀ j u, (tab m V)[j]? = some u → w.cell? (ad.add j) = some u := by
      intro j u hu
      rw [tab_get] at hu
      split at hu
      · rename_i hj
        obtain ⟨b, o, h, _, hc⟩ := hr (by omega)
        injection h with h; subst h; injection hu with hu; subst hu
        rw [← hc j hj]
        unfold Addr.add; split <;> simp_all
      · cases hu
    obtain ⟨v', w', hrun, h2, h3, h4, h5⟩ := run_append_own_at (P := P) w base t ty e i z 1 bytes ht hi hz hsize hby hzs (by omega) _ n xs hown ad m c (tab m V) (by rw [tab_len]; omega) hc h1 h63 hbytes hbase
    rcases h2.2 with ⟨e1, _⟩ | ⟨g', cap', _, e1, _⟩
    · exact absurd (h4.mp e1).1 (by simp)
    · subst e1
      refine ⟨g', cap', w', hrun, h2, h3, ?_⟩
      rcases h5 with h5 | h5
      · left; simpa [Value.ownBlock] using h5
      · right; simpa [Value.ownBlock] using h5

theorem wpList_append_rd {ops : Array Oper} {rest : List Oper} {o : Oper} {a : Act} {Q : Exit → Act → World → Prop} (hgd : o.guard = none) (s x : Operand) (t : TypeId)
    (ho : o.op = .call { callee := .builtin .append, args := #[s, x], argTypes := #[t, t] })
    (base : Nat) (e : TypeId) (i : TypeInfo) (z : Value) (bytes : Nat) (ht : P.underlying t = some (.slice e)) (hi : P.info? e = some i) (hz : i.zero = some z)
    (hsize : i.size = 1) (hby : i.bytes = bytes) (hzs : z.cells.size = 1) (g cap n : Nat) (xs : List Value) (hs : a.eval s = .slice (some ⟨g, 0, none⟩) n cap) (hown : w.ownsRow base e 1 (.slice (some ⟨g, 0, none⟩) n cap) n xs)
    (B : Nat) (A : Option Addr) (m c : Nat) (V : Nat → Value) (hx : a.eval x = .slice A m c) (hr : Rd w B A m V) (h1 : ∀ u ∈ tab m V, u.oneCell' = true) (hbytes : (n + m) * bytes ≤ 140737488355328) (h63 : n + m ≤ maxLen) (hbase : base ≤ w.heap.size)
    (h : ∀ g' cap' w', w'.ownsRow base e 1 (.slice (some ⟨g', 0, none⟩) (n + m) cap') (n + m) (xs ++ tab m V) → w.grownBy w' (some g) → (g' = g ∨ g' = w.heap.size) → wpList P ops Q rest (a.put o.dst (.slice (some ⟨g', 0, none⟩) (n + m) cap')) w') :
    wpList P ops Q (o :: rest) a w := by
  refine wpList_plain hgd fun K hK => ?_
  obtain ⟨g', cap', w', hr, h2, h3, h4⟩ := run_append_rd (P := P) w base t o.type e i z bytes ht hi hz hsize hby hzs g cap n xs hown B A m c V hr h1 hbytes h63 hbase
  unfold Oper.wp execOp
  simp only [ho, resolve, invoke, builtin, Sem.run_bind, Sem.run_pure, Result.andThen_ok, List.map_toArray, List.map_cons, List.map_nil, hs, hx, hr]
  exact hK _ _ (h g' cap' w' h2 h3 h4)
end

section
variable {P : Program} (w : World)
/-- make([]T, n), T of one cell: an own row of noughts. -/
theorem wpList_make_tab {ops : Array Oper} {rest : List Oper} {o : Oper} {a : Act} {Q : Exit → Act → World → Prop}
    (hg : o.guard = none) (l c : Operand) (t : TypeId) (hop : o.op = Op.makeSlice t l c)
    (e : TypeId) (i : TypeInfo) (k : IntKind) (bytes : Nat) (h1 : P.underlying t = some (.slice e)) (h2 : P.info? e = some i) (h3 : i.zero = some (.int k 0)) (h4 : i.size = 1) (h5 : i.bytes = bytes)
    (kl kc : IntKind) (n : Nat) (hl : a.eval l = .int kl (n : Int)) (hc : a.eval c = .int kc (n : Int)) (b2 : bytes * n ≤ 281474976710656) (b3 : n ≤ maxLen)
    (hK : ∀ w', w'.ownsRow w.heap.size e 1 (.slice (some ⟨w.heap.size, 0, none⟩) n n) n (tab n (IntRow k (fun _ => 0))) → Since w w' → wpList P ops Q rest (a.put o.dst (.slice (some ⟨w.heap.size, 0, none⟩) n n)) w') :
    wpList P ops Q (o :: rest) a w := by
  refine wpList_make_full w hg l c t hop w.heap.size e i (.int k 0) 1 h1 h2 h3 h4 kl kc (n : Int) (n : Int) n hl hc rfl rfl (by rw [h5]; exact b2) b3 (Nat.le_refl _) (fun w' hown hgr => hK w' ?_ (since_grown (Since.refl w) hgr (fun k hk => by cases hk)))
  have e1 : (madeCells (Value.int k 0).cells (n * 1)).toList = tab n (IntRow k (fun _ => 0)) := by
    rw [show (Value.int k 0).cells = #[.int k 0] from rfl, Nat.mul_one, toList_madeCells_one, tab_rep]
    rfl
  rw [e1] at hown
  exact hown
end
end Go.Proofs.YteckkcpnfeoehaaGreatDoor

/-
  The law's last step for whatever parameters: what came in reads as it did (the kit's 'Trod_stays'); slices of whole numbers that came in, opened.
-/
namespace Go.Proofs.YteckkcpnfeoehaaGreatDoor
set_option maxRecDepth 100000
open Go.RowKit Go.ChangeShapes Go.WideShapes

section
variable {H : Type} {enc : TypeId × Value → H} {P : Program}
theorem all_stays (hl : laidOutB P = true) {W W' : World} {sp : Nat → Bool} : ∀ {ts : List TypeId} {vs : List Value} {ds : List (DataW H)} {ps : List MemPlace}, (∀ t ∈ ts, P.readableRec t = true ∧ t < P.types.size) →
    DataW.TrodAll enc P W 0 (fun _ => true) true ts vs ds ps → (∀ p ∈ ps, W.sameAt W' p) → (∀ p ∈ ps, sp p.block = true) → DataW.TrodAll enc P W' 0 sp true ts vs ds ps
  | [], [], [], _, _, h, _, _ => h
  | [], _ :: _, _, _, _, h, _, _ => by cases h
  | [], [], _ :: _, _, _, h, _, _ => by cases h
  | _ :: _, [], _, _, _, h, _, _ => by cases h
  | _ :: _, _ :: _, [], _, _, h, _, _ => by cases h
  | t :: ts, v :: vs, d :: ds, ps, ht, h, hs, hp => by
    obtain ⟨p, q, h1, h2, rfl⟩ := h
    exact ⟨p, q, WideElems.Trod_stays hl (ht t (by simp)).1 (ht t (by simp)).2 h1 (fun x hx => hs x (by simp [hx])) (fun x hx => hp x (by simp [hx])),
      all_stays hl (fun t' h' => ht t' (by simp [h'])) h2 (fun x hx => hs x (by simp [hx])) (fun x hx => hp x (by simp [hx])), rfl⟩
/-- The law's last step: it answers true, and all that was there is as it was. -/
theorem post_true {f : Func} {s : ChangeSpec} {apart fresh handsOn again : Bool} {W W' : World} {args : Array Value} {ds : List (DataW H)} {before : List MemPlace} {tb : TypeId}
    (hl : laidOutB P = true) (hts : f.params.toList.all (fun t => P.readableRec t && decide (t < P.types.size)) = true)
    (hW : DataW.Whole enc P f.params.toList s.vars apart W args.toList ds [] before) (hv : s.vars = []) (hr : f.resultTypes = #[tb]) (hb : P.underlying tb = some .bool)
    (h1 : (s.fn H (ds ++ [])).results = [.lit (.bool true)]) (h2 : (s.fn H (ds ++ [])).args = ds) (h3 : (s.fn H (ds ++ [])).vars = []) (hS : Since W W') :
    s.post enc P f apart fresh handsOn again W args (.bool true) W' := by
  have hW0 := hW
  obtain ⟨p, q, hA, hV, rfl, _, _⟩ := hW
  rw [hv] at hV
  obtain ⟨_, rfl⟩ := trodVars_none hV
  simp only [List.append_nil] at hW0
  have hlt : ∀ x ∈ p, x.block < W.heap.size := fun x hx => hW0.lt x hx
  have hq : ∀ t ∈ f.params.toList, P.readableRec t = true ∧ t < P.types.size := fun t ht => by
    have := List.all_eq_true.1 hts t ht
    simpa using this
  refine post_since (pa := p) (pv := []) hW0 (fun _ _ _ => ?_) (fun sp hsp => ?_) (fun sp hsp => ?_) (by simp) hS ?_
  · rw [h1, hr]
    exact trodAll_cons_mk (shut_bool hb _) trodAll_mk0
  · rw [h2]
    exact all_stays hl hq hA (fun x hx => hS.below.same (hlt x hx)) (fun x hx => hsp x hx)
  · rw [h3, hv]; rfl
  · exact ok_one hr rfl (okWide_bool_mk hb _)
end

section
variable {H : Type} {enc : TypeId × Value → H} {P : Program} {W : World}
theorem wf_u8 {x : Int} (h : (Lit.int .u8 x).wf = true) : 0 ≤ x ∧ x ≤ 255 := by
  simpa [Lit.wf, IntKind.min, IntKind.max, IntKind.signed, IntKind.bits] using h
theorem wf_i64 {a : Int} (h : (Lit.int .i64 a).wf = true) : In64 a := by
  have h : -9223372036854775808 ≤ a ∧ a ≤ 9223372036854775807 := by simpa [Lit.wf, IntKind.min, IntKind.max, IntKind.signed, IntKind.bits] using h
  unfold In64; omega
end
end Go.Proofs.YteckkcpnfeoehaaGreatDoor

/-
  A value of several cells that came in (a struct, an array, one in the other), opened cell by cell.
-/
namespace Go.Proofs.YteckkcpnfeoehaaGreatDoor
set_option maxRecDepth 100000
open Go.RowKit Go.ChangeShapes Go.WideShapes

/-- The type of a type's cell j: of one cell itself. -/
def leafAt (P : Program) : Nat → TypeId → Nat → Option TypeId
  | 0, _, _ => none
  | n + 1, t, j => match P.underlying t with
    | some (.struct fs) => (fs.toList.find? (fun f => decide (f.offset ≤ j ∧ j < f.offset + P.cellsOf f.type))).bind fun f => leafAt P n f.type (j - f.offset)
    | some (.array k e) => if 0 < P.cellsOf e ∧ j / P.cellsOf e < k then leafAt P n e (j % P.cellsOf e) else none
    | some .bool | some (.int _) | some .string | some (.slice _) => if j = 0 then some t else none
    | _ => none
section
variable {H : Type} {enc : TypeId × Value → H} {P : Program} {W : World} {base : Nat} {sp : Nat → Bool} {held : Bool}
theorem one_cell {t : TypeId} {m : Nat} {cs : List Value} {x : DataW H × List MemPlace} (h : DataW.trod enc P W base sp held m t cs = some x)
    (hk : P.underlying t = some .bool ∨ (∃ k, P.underlying t = some (.int k)) ∨ P.underlying t = some .string ∨ (∃ e, P.underlying t = some (.slice e))) : ∃ v, cs = [v] := by
  cases m with
  | zero => simp [DataW.trod] at h
  | succ m =>
    unfold DataW.trod at h
    rcases hk with hk | ⟨k, hk⟩ | hk | ⟨e, hk⟩ <;> rw [hk] at h <;> (split at h <;> first | (simp_all; done) | exact ⟨_, rfl⟩)
theorem leaf_at : ∀ (n : Nat) (t t' : TypeId) (j : Nat), leafAt P n t j = some t' → ∀ (m : Nat) (cs : List Value) (x : DataW H × List MemPlace), DataW.trod enc P W base sp held m t cs = some x →
    ∃ v m' y, cs[j]? = some v ∧ DataW.trod enc P W base sp held m' t' [v] = some y ∧ ∀ p ∈ y.2, p ∈ x.2 := by
  intro n
  induction n with
  | zero => intro t t' j h; simp [leafAt] at h
  | succ n ih =>
    intro t t' j h m cs x hx
    unfold leafAt at h
    split at h
    · rename_i fs hu
      rw [Option.bind_eq_some_iff] at h
      obtain ⟨f, hf, hl⟩ := h
      have hmem := List.mem_of_find?_eq_some hf
      have hp := List.find?_some hf
      simp only [decide_eq_true_eq] at hp
      obtain ⟨i, hi⟩ := List.getElem?_of_mem hmem
      obtain ⟨xs, m1, rfl, rfl, hlen, hxs, hall⟩ := DataW.trod_struct hu hx
      have hi' : fs[i]? = some f := by simpa using hi
      have hget := hall i f hi'
      have hil : i < xs.length := by
        rw [hxs]
        have := (List.getElem?_eq_some_iff.1 hi).1
        simpa using this
      rw [List.getElem?_eq_getElem hil] at hget
      obtain ⟨v, m', y, h1, h2, h3⟩ := ih _ _ _ hl _ _ _ hget
      refine ⟨v, m', y, ?_, h2, fun p hpm => ?_⟩
      · rw [List.getElem?_take, if_pos (by omega), List.getElem?_drop, show f.offset + (j - f.offset) = j by omega] at h1
        exact h1
      · exact List.mem_flatMap.2 ⟨xs[i], List.getElem_mem hil, h3 p hpm⟩
    · rename_i k e hu
      split at h
      · rename_i hc
        obtain ⟨xs, m1, rfl, rfl, hlen, hxs, hall⟩ := DataW.trod_array hu hx
        have hget := hall (j / P.cellsOf e) hc.2
        have hil : j / P.cellsOf e < xs.length := by omega
        rw [List.getElem?_eq_getElem hil] at hget
        obtain ⟨v, m', y, h1, h2, h3⟩ := ih _ _ _ h _ _ _ hget
        refine ⟨v, m', y, ?_, h2, fun p hpm => ?_⟩
        · rw [List.getElem?_take, if_pos (Nat.mod_lt _ hc.1), List.getElem?_drop, show j / P.cellsOf e * P.cellsOf e + j % P.cellsOf e = j from Nat.div_add_mod' j _] at h1
          exact h1
        · exact List.mem_flatMap.2 ⟨xs[j / P.cellsOf e], List.getElem_mem hil, h3 p hpm⟩
      · cases h
    all_goals first
      | (rename_i hu; split at h
         · rename_i h0; subst h0; injection h with h; subst h
           obtain ⟨v, rfl⟩ := one_cell hx (by first | exact .inl hu | exact .inr (.inl ⟨_, hu⟩) | exact .inr (.inr (.inl hu)) | exact .inr (.inr (.inr ⟨_, hu⟩)))
           exact ⟨v, m, x, rfl, hx, fun _ hp => hp⟩
         · cases h)
      | cases h
theorem leaf_int {n : Nat} {t t' : TypeId} {j : Nat} {k : IntKind} (hl : leafAt P n t j = some t') (hk : P.underlying t' = some (.int k)) {v : Value} {d : DataW H} {ps : List MemPlace} (h : DataW.Trod enc P W base sp held t v d ps) :
    ∃ a, v.cells[j]? = some (.int k a) ∧ (Lit.int k a).wf = true := by
  obtain ⟨m, hm⟩ := h
  obtain ⟨u, m', y, h1, h2, _⟩ := leaf_at n t t' j hl m _ _ hm
  obtain ⟨a, e, _, hw⟩ := DataW.trod_int hk h2
  injection e with e
  subst e
  exact ⟨a, by simpa using h1, hw⟩
theorem leaf_bool {n : Nat} {t t' : TypeId} {j : Nat} (hl : leafAt P n t j = some t') (hk : P.underlying t' = some .bool) {v : Value} {d : DataW H} {ps : List MemPlace} (h : DataW.Trod enc P W base sp held t v d ps) :
    ∃ a, v.cells[j]? = some (.bool a) := by
  obtain ⟨m, hm⟩ := h
  obtain ⟨u, m', y, h1, h2, _⟩ := leaf_at n t t' j hl m _ _ hm
  obtain ⟨a, e, _⟩ := DataW.trod_bool hk h2
  injection e with e
  subst e
  exact ⟨a, by simpa using h1⟩
theorem okWide_agg {r : Reach} {b0 : Nat} {t : TypeId} {v : Value} (hu : (match P.underlying t with | some (.struct _) | some (.array _ _) => true | _ => false) = true) (h : Value.okWide P W r b0 t v) : ∃ cs, v = .agg cs ∧ cs.size = P.cellsOf t := by
  unfold Value.okWide at h
  split at h
  · obtain ⟨cs, h1, h2, _⟩ := h; exact ⟨cs, h1, h2⟩
  · obtain ⟨cs, h1, h2, _⟩ := h; exact ⟨cs, h1, h2⟩
  · rename_i h1 h2
    split at hu
    · rename_i e; exact absurd e (h1 _)
    · rename_i e; exact absurd e (h2 _ _)
    · cases hu
theorem agg_cells {cs : Array Value} {l : List Value} (hs : cs.size = l.length) (h : ∀ i, i < l.length → cs[i]? = l[i]?) : cs = l.toArray := by
  apply Array.ext
  · simpa using hs
  · intro i h1 h2
    have := h i (by omega)
    rw [Array.getElem?_eq_getElem h1] at this
    simp only [List.size_toArray] at h2
    rw [List.getElem?_eq_getElem h2] at this
    simpa using this
end
end Go.Proofs.YteckkcpnfeoehaaGreatDoor
