/-
  Words of this proof's own for slices: 'Rd' (a slice that reads as a function of the place), 'tab' (such a function's list), own rows.
-/
import Derived.Test.YtcfghkphkmoikaaGreatKit
import Derived.Laws.OwnMore
import Derived.Laws.BytesArg
import Derived.Maps.AppendAt
import Derived.Deep.AppendLies
import Derived.Laws.CopyOwn
import Derived.OwnWalk
namespace Go.Proofs.YtcfghkphkmoikaaGreat
set_option maxRecDepth 100000
open Go.RowKit

def In64 (n : Int) : Prop := -9223372036854775808 ≤ n ∧ n ≤ 9223372036854775807
def InP (x y : Int) : Prop := In64 x ∧ In64 y

def tab (n : Nat) (V : Nat → Value) : List Value := (List.range n).map V
theorem tab_len (n : Nat) (V : Nat → Value) : (tab n V).length = n := by simp [tab]
theorem tab_get (n : Nat) (V : Nat → Value) (j : Nat) : (tab n V)[j]? = if j < n then some (V j) else none := by
  unfold tab
  split
  · rename_i h; simp [h]
  · rename_i h; simp [h]
theorem tab_congr {n : Nat} {V U : Nat → Value} (h : ∀ j, j < n → V j = U j) : tab n V = tab n U := by
  apply List.ext_getElem?
  intro j
  rw [tab_get, tab_get]
  split
  · rw [h j (by assumption)]
  · rfl
theorem tab_zero (V : Nat → Value) : tab 0 V = [] := rfl
theorem tab_append (n m : Nat) (V U : Nat → Value) : tab n V ++ tab m U = tab (n + m) (fun j => if j < n then V j else U (j - n)) := by
  apply List.ext_getElem?
  intro j
  rw [List.getElem?_append, tab_len, tab_get, tab_get, tab_get]
  by_cases h : j < n
  · rw [if_pos h, if_pos h, if_pos (by omega), if_pos h]
  · rw [if_neg h, if_neg h]
    by_cases h2 : j - n < m
    · rw [if_pos h2, if_pos (by omega)]
    · rw [if_neg h2, if_neg (by omega)]
theorem tab_one (V : Nat → Value) : tab 1 V = [V 0] := rfl
theorem tab_rep (n : Nat) (v : Value) : List.replicate n v = tab n (fun _ => v) := by
  apply List.ext_getElem?
  intro j
  rw [tab_get, List.getElem?_replicate]
def IntRow (k : IntKind) (f : Nat → Int) (j : Nat) : Value := .int k (f j)
theorem tab_ones {n : Nat} {k : IntKind} {f : Nat → Int} : ∀ u ∈ tab n (IntRow k f), u.oneCell' = true := by
  intro u hu
  unfold tab at hu
  rw [List.mem_map] at hu
  obtain ⟨j, _, rfl⟩ := hu
  rfl

/-- A slice's n elements read as V, in a block below B (nil and empty let in). -/
def Rd (w : World) (B : Nat) (A : Option Addr) (n : Nat) (V : Nat → Value) : Prop :=
  0 < n → ∃ b o, A = some ⟨b, o, none⟩ ∧ b < B ∧ ∀ j, j < n → w.cell? ⟨b, o + j, none⟩ = some (V j)
section
variable {w w' : World} {B B' n : Nat} {A : Option Addr} {V U : Nat → Value}
theorem Rd.zero : Rd w B A 0 V := fun h => absurd h (by omega)
theorem Rd.keep (h : Rd w B A n V) (hk : ∀ b o, b < B → w'.cell? ⟨b, o, none⟩ = w.cell? ⟨b, o, none⟩) : Rd w' B A n V := fun hn => by
  obtain ⟨b, o, rfl, hb, hc⟩ := h hn
  exact ⟨b, o, rfl, hb, fun j hj => (hk _ _ hb).trans (hc j hj)⟩
theorem Rd.more (h : Rd w B A n V) (hB : B ≤ B') : Rd w B' A n V := fun hn => by
  obtain ⟨b, o, rfl, hb, hc⟩ := h hn
  exact ⟨b, o, rfl, by omega, hc⟩
theorem Rd.congr (h : Rd w B A n V) (e : ∀ j, j < n → V j = U j) : Rd w B A n U := fun hn => by
  obtain ⟨b, o, rfl, hb, hc⟩ := h hn
  exact ⟨b, o, rfl, hb, fun j hj => (hc j hj).trans (by rw [e j hj])⟩
theorem Rd.since (h : Rd w B A n V) (hB : B ≤ w.heap.size) (k : Since w w') : Rd w' B A n V := h.keep fun b o hb => k.1 b o (by omega)
theorem Rd.on (h : Rd w w.heap.size A n V) (k : Since w w') : Rd w' w'.heap.size A n V := (h.since (Nat.le_refl _) k).more k.below.size
theorem Rd.drew (h : Rd w B A n V) : Rd w.drew B A n V := h
theorem Rd.drewN (h : Rd w B A n V) (k : Nat) : Rd (w.drewN k) B A n V := h
theorem Rd.alloc (h : Rd w B A n V) (hB : B ≤ w.heap.size) (o : Obj) : Rd (w.alloc o) B A n V := h.keep fun b p hb => World.cell?_alloc_lt w o ⟨b, p, none⟩ (show b < w.heap.size by omega)
theorem Rd.setCell (h : Rd w B A n V) {p : Addr} (hB : B ≤ p.block) (u : Value) : Rd (w.setCell p u) B A n V :=
  h.keep fun b o hb => World.cell?_setCell_other w p ⟨b, o, none⟩ u (fun e => by subst e; simp at hB; omega)
theorem Rd.of_row {b : Nat} (h : Row w b n V) : Rd w w.heap.size (some ⟨b, 0, none⟩) n V := fun _ => ⟨b, 0, rfl, h.2.2, fun j hj => by rw [Nat.zero_add]; exact h.1 j hj⟩
/-- The first cells alone; those from a place on, as the walk writes a slice expression. -/
theorem Rd.take (h : Rd w B A n V) {m : Nat} (hm : m ≤ n) : Rd w B A m V := fun h0 => by
  obtain ⟨b, o, rfl, hb, hc⟩ := h (by omega)
  exact ⟨b, o, rfl, hb, fun j hj => hc j (by omega)⟩
theorem Rd.drop (h : Rd w B A n V) {k cap m : Nat} (hk : k + m ≤ n) (hc : n ≤ cap) : Rd w B (if cap = k then A else A.map (·.add k)) m (fun j => V (k + j)) := fun h0 => by
  obtain ⟨b, o, rfl, hb, hcell⟩ := h (by omega)
  rw [if_neg (by omega)]
  refine ⟨b, o + k, ?_, hb, fun j hj => ?_⟩
  · unfold Addr.add; split <;> simp_all
  · rw [Nat.add_assoc]; exact hcell _ (by omega)
/-- An own row's cells. -/
theorem row_of_own {base : Nat} {e : TypeId} {g cap : Nat} (h : w.ownsRow base e 1 (.slice (some ⟨g, 0, none⟩) n cap) n (tab n V)) : Row w g n V := by
  refine ⟨fun j hj => ?_, fun j => h.frozenAt j, ?_⟩
  · rw [h.cellAt j (by omega), tab_get, if_pos hj]
  · rcases h.2 with ⟨e1, _⟩ | ⟨g', c', cur, e1, _, hh, _⟩
    · cases e1
    · injection e1 with e1 _ _
      injection e1 with e1
      injection e1 with e1
      subst e1
      rcases Nat.lt_or_ge g w.heap.size with hlt | hge
      · exact hlt
      · rw [Array.getElem?_eq_none hge] at hh; cases hh
theorem own_base {base : Nat} {e : TypeId} {g cap : Nat} {xs : List Value} (h : w.ownsRow base e 1 (.slice (some ⟨g, 0, none⟩) n cap) n xs) : base ≤ g := by
  rcases h.2 with ⟨e1, _⟩ | ⟨g', c', cur, e1, hb, _⟩
  · cases e1
  · injection e1 with e1 _ _
    injection e1 with e1
    injection e1 with e1
    omega
theorem own_since {base : Nat} {e : TypeId} {v : Value} {xs : List Value} (h : w.ownsRow base e 1 v n xs) (k : Since w w') : w'.ownsRow base e 1 v n xs := by
  refine ⟨h.1, ?_⟩
  rcases h.2 with h0 | ⟨g, cap, cur, e1, hb, hh, r⟩
  · exact .inl h0
  · refine .inr ⟨g, cap, cur, e1, hb, ?_, r⟩
    have hlt : g < w.heap.size := by
      rcases Nat.lt_or_ge g w.heap.size with hlt | hge
      · exact hlt
      · rw [Array.getElem?_eq_none hge] at hh; cases hh
    rw [k.below.block g hlt]; exact hh
theorem since_grown {w0 : World} {row : Option Nat} (h : Since w0 w) (hg : w.grownBy w' row) (hr : ∀ k, row = some k → w0.heap.size ≤ k) : Since w0 w' := since_of (h.below.grown hg h.below.size hr)
end

section
variable {P : Program} (w : World)
/-- append to a row of the call's own that is no nil: of elements that read so, nil and empty let in: the new value written out, and where it lies. -/
theorem run_append_rd (base : Nat) (t ty e : TypeId) (i : TypeInfo) (z : Value) (bytes : Nat) (ht : P.underlying t = some (.slice e)) (hi : P.info? e = some i) (hz : i.zero = some z)
    (hsize : i.size = 1) (hby : i.bytes = bytes) (hzs : z.cells.size = 1) (g cap n : Nat) (xs : List Value) (hown : w.ownsRow base e 1 (.slice (some ⟨g, 0, none⟩) n cap) n xs)
    (B : Nat) (A : Option Addr) (m c : Nat) (V : Nat → Value) (hr : Rd w B A m V) (h1 : ∀ u ∈ tab m V, u.oneCell' = true) (hbytes : (n + m) * bytes ≤ 140737488355328) (h63 : n + m ≤ maxLen) (hbase : base ≤ w.heap.size) :
    ∃ g' cap' w', (Builtin.append_ #[t, t] ty #[.slice (some ⟨g, 0, none⟩) n cap, .slice A m c]).run P w = .ok (.slice (some ⟨g', 0, none⟩) (n + m) cap') w' ∧ w'.ownsRow base e 1 (.slice (some ⟨g', 0, none⟩) (n + m) cap') (n + m) (xs ++ tab m V) ∧ w.grownBy w' (some g) ∧ (g' = g ∨ g' = w.heap.size) := by
  have hcap : n ≤ cap := by
    rcases hown.2 with ⟨e1, _⟩ | ⟨_, _, _, e1, _, _, hnc, _⟩
    · cases e1
    · injection e1 with _ _ e3; omega
  rcases A with _ | ad
  · have hm : m = 0 := by
      rcases Nat.eq_zero_or_pos m with h0 | h0
      · exact h0
      · obtain ⟨b, o, h, _⟩ := hr h0; cases h
    subst hm
    refine ⟨g, cap, w, ?_, by simpa [tab_zero] using hown, World.grownBy.refl w _, .inl rfl⟩
    simp [Builtin.append_, run_underlying ht, sizeOf, typeInfo, hi, Builtin.lenOf, Builtin.firstCells, hcap, storeCells]
  · have hc : ∀ j u, (tab m V)[j]? = some u → w.cell? (ad.add j) = some u := by
      intro j u hu
      rw [tab_get] at hu
      split at hu
      · rename_i hj
        obtain ⟨b, o, h, _, hc⟩ := hr (by omega)
        injection h with h; subst h; injection hu with hu; subst hu
        rw [← hc j hj]
        unfold Addr.add; split <;> simp_all
      · cases hu
    obtain ⟨v', w', hrun, h2, h3, h4, h5⟩ := run_append_own_at (P := P) w base t ty e i z 1 bytes ht hi hz hsize hby hzs (by omega) _ n xs hown ad m c (tab m V) (by rw [tab_len]; omega) hc h1 h63 hbytes hbase
    rcases h2.2 with ⟨e1, _⟩ | ⟨g', cap', _, e1, _⟩
    · exact absurd (h4.mp e1).1 (by simp)
    · subst e1
      refine ⟨g', cap', w', hrun, h2, h3, ?_⟩
      rcases h5 with h5 | h5
      · left; simpa [Value.ownBlock] using h5
      · right; simpa [Value.ownBlock] using h5

theorem wpList_append_rd {ops : Array Oper} {rest : List Oper} {o : Oper} {a : Act} {Q : Exit → Act → World → Prop} (hgd : o.guard = none) (s x : Operand) (t : TypeId)
    (ho : o.op = .call { callee := .builtin .append, args := #[s, x], argTypes := #[t, t] })
    (base : Nat) (e : TypeId) (i : TypeInfo) (z : Value) (bytes : Nat) (ht : P.underlying t = some (.slice e)) (hi : P.info? e = some i) (hz : i.zero = some z)
    (hsize : i.size = 1) (hby : i.bytes = bytes) (hzs : z.cells.size = 1) (g cap n : Nat) (xs : List Value) (hs : a.eval s = .slice (some ⟨g, 0, none⟩) n cap) (hown : w.ownsRow base e 1 (.slice (some ⟨g, 0, none⟩) n cap) n xs)
    (B : Nat) (A : Option Addr) (m c : Nat) (V : Nat → Value) (hx : a.eval x = .slice A m c) (hr : Rd w B A m V) (h1 : ∀ u ∈ tab m V, u.oneCell' = true) (hbytes : (n + m) * bytes ≤ 140737488355328) (h63 : n + m ≤ maxLen) (hbase : base ≤ w.heap.size)
    (h : ∀ g' cap' w', w'.ownsRow base e 1 (.slice (some ⟨g', 0, none⟩) (n + m) cap') (n + m) (xs ++ tab m V) → w.grownBy w' (some g) → (g' = g ∨ g' = w.heap.size) → wpList P ops Q rest (a.put o.dst (.slice (some ⟨g', 0, none⟩) (n + m) cap')) w') :
    wpList P ops Q (o :: rest) a w := by
  refine wpList_plain hgd fun K hK => ?_
  obtain ⟨g', cap', w', hr, h2, h3, h4⟩ := run_append_rd (P := P) w base t o.type e i z bytes ht hi hz hsize hby hzs g cap n xs hown B A m c V hr h1 hbytes h63 hbase
  unfold Oper.wp execOp
  simp only [ho, resolve, invoke, builtin, Sem.run_bind, Sem.run_pure, Result.andThen_ok, List.map_toArray, List.map_cons, List.map_nil, hs, hx, hr]
  exact hK _ _ (h g' cap' w' h2 h3 h4)
end

section
variable {P : Program} (w : World)
/-- make([]T, n), T of one cell: an own row of noughts. -/
theorem wpList_make_tab {ops : Array Oper} {rest : List Oper} {o : Oper} {a : Act} {Q : Exit → Act → World → Prop}
    (hg : o.guard = none) (l c : Operand) (t : TypeId) (hop : o.op = Op.makeSlice t l c)
    (e : TypeId) (i : TypeInfo) (k : IntKind) (bytes : Nat) (h1 : P.underlying t = some (.slice e)) (h2 : P.info? e = some i) (h3 : i.zero = some (.int k 0)) (h4 : i.size = 1) (h5 : i.bytes = bytes)
    (kl kc : IntKind) (n : Nat) (hl : a.eval l = .int kl (n : Int)) (hc : a.eval c = .int kc (n : Int)) (b2 : bytes * n ≤ 281474976710656) (b3 : n ≤ maxLen)
    (hK : ∀ w', w'.ownsRow w.heap.size e 1 (.slice (some ⟨w.heap.size, 0, none⟩) n n) n (tab n (IntRow k (fun _ => 0))) → Since w w' → wpList P ops Q rest (a.put o.dst (.slice (some ⟨w.heap.size, 0, none⟩) n n)) w') :
    wpList P ops Q (o :: rest) a w := by
  refine wpList_make_full w hg l c t hop w.heap.size e i (.int k 0) 1 h1 h2 h3 h4 kl kc (n : Int) (n : Int) n hl hc rfl rfl (by rw [h5]; exact b2) b3 (Nat.le_refl _) (fun w' hown hgr => hK w' ?_ (since_grown (Since.refl w) hgr (fun k hk => by cases hk)))
  have e1 : (madeCells (Value.int k 0).cells (n * 1)).toList = tab n (IntRow k (fun _ => 0)) := by
    rw [show (Value.int k 0).cells = #[.int k 0] from rfl, Nat.mul_one, toList_madeCells_one, tab_rep]
    rfl
  rw [e1] at hown
  exact hown
end
end Go.Proofs.YtcfghkphkmoikaaGreat
