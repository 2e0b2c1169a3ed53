/-
  Texts of this seat, put together: each with its own head.
-/
import Derived.Test.YtcfghkphkmoikaaGreatMqK
import Derived.Test.YtcfghkphkmoikaaGreatKitB
import Derived.Test.YtcfghkphkmoikaaGreatKitBut

/-
  Rows of elements of k cells each, told by a list of anything: own rows, rows that are read, append.
-/
namespace Go.Proofs.YtcfghkphkmoikaaGreat
set_option maxRecDepth 100000
open Go.RowKit Go.ChangeShapes Go.WideShapes Go.Deep
set_option linter.unusedVariables false

section
variable {α : Type} {k : Nat} {enc : α → List Value}
def cellsG (enc : α → List Value) (L : List α) : List Value := L.flatMap enc
theorem cellsG_snoc (L : List α) (s : α) : cellsG enc (L ++ [s]) = cellsG enc L ++ enc s := by unfold cellsG; simp
theorem cellsG_append (L M : List α) : cellsG enc (L ++ M) = cellsG enc L ++ cellsG enc M := by unfold cellsG; simp
theorem cellsG_len (hk : ∀ a, (enc a).length = k) : ∀ L : List α, (cellsG enc L).length = L.length * k
  | [] => by simp [cellsG]
  | s :: L => by
    have ih := cellsG_len hk L
    unfold cellsG at ih ⊢
    rw [List.flatMap_cons, List.length_append, ih, List.length_cons, hk, Nat.succ_mul, Nat.add_comm]
theorem cellsG_get (hk : ∀ a, (enc a).length = k) : ∀ (L : List α) (j : Nat) (s : α), L[j]? = some s → ∀ i, i < k → (cellsG enc L)[j * k + i]? = (enc s)[i]?
  | [], j, s, h, i, hi => by simp at h
  | a :: L, 0, s, h, i, hi => by
    simp only [List.getElem?_cons_zero, Option.some.injEq] at h
    subst h
    unfold cellsG
    rw [List.flatMap_cons, Nat.zero_mul, Nat.zero_add, List.getElem?_append_left (by rw [hk]; exact hi)]
  | a :: L, j + 1, s, h, i, hi => by
    rw [List.getElem?_cons_succ] at h
    have ih := cellsG_get hk L j s h i hi
    unfold cellsG at ih ⊢
    have e : (j + 1) * k + i = k + (j * k + i) := by rw [Nat.succ_mul]; omega
    rw [List.flatMap_cons, e, List.getElem?_append_right (by rw [hk]; omega), hk, Nat.add_sub_cancel_left]
    exact ih
theorem cellsG_tab (hk : ∀ a, (enc a).length = k) (L : List α) : cellsG enc L = tab (L.length * k) (fun j => (cellsG enc L).getD j undef) := by
  apply List.ext_getElem?
  intro j
  rw [tab_get]
  split
  · rename_i h
    rw [List.getD_eq_getElem?_getD, List.getElem?_eq_getElem (by rw [cellsG_len hk]; exact h)]
    rfl
  · rename_i h
    rw [List.getElem?_eq_none (by rw [cellsG_len hk]; omega)]
/-- A slice's elements, in a block below B (nil and empty let in). -/
def RdG (k : Nat) (enc : α → List Value) (w : World) (B : Nat) (A : Option Addr) (L : List α) : Prop :=
  0 < L.length → ∃ b o, A = some ⟨b, o, none⟩ ∧ b < B ∧ ∀ j s, L[j]? = some s → ∀ i, i < k → w.cell? ⟨b, o + j * k + i, none⟩ = some ((enc s).getD i undef)
/-- An own row of such elements. -/
def OwnG (t : TypeId) (k : Nat) (enc : α → List Value) (w : World) (base : Nat) (v : Value) (L : List α) : Prop := w.ownsRow base t k v L.length (cellsG enc L)
section
variable {w w' : World} {B B' n : Nat} {A : Option Addr} {L : List α} {t : TypeId} {base : Nat} {v : Value}
theorem RdG.nil : RdG k enc w B A [] := fun h => absurd h (by simp)
theorem RdG.keep (h : RdG k enc w B A L) (hk : ∀ b o, b < B → w'.cell? ⟨b, o, none⟩ = w.cell? ⟨b, o, none⟩) : RdG k enc w' B A L := fun hn => by
  obtain ⟨b, o, rfl, hb, hc⟩ := h hn
  exact ⟨b, o, rfl, hb, fun j s hj i hi => (hk _ _ hb).trans (hc j s hj i hi)⟩
theorem RdG.more (h : RdG k enc w B A L) (hB : B ≤ B') : RdG k enc w B' A L := fun hn => by
  obtain ⟨b, o, rfl, hb, hc⟩ := h hn
  exact ⟨b, o, rfl, by omega, hc⟩
theorem RdG.since (h : RdG k enc w B A L) (hB : B ≤ w.heap.size) (s : Since w w') : RdG k enc w' B A L := h.keep fun b o hb => s.1 b o (by omega)
theorem RdG.on (h : RdG k enc w w.heap.size A L) (s : Since w w') : RdG k enc w' w'.heap.size A L := (h.keep fun b o hb => s.1 b o hb).more s.below.size
theorem OwnG.nil (t : TypeId) (k : Nat) (enc : α → List Value) (w : World) (base : Nat) : OwnG t k enc w base (.slice none 0 0) [] := World.ownsRow_nil _ _ _ _
theorem OwnG.since (h : OwnG t k enc w base v L) (s : Since w w') : OwnG t k enc w' base v L := own_since_k (n := L.length) h s
theorem OwnG.alloc (h : OwnG t k enc w base v L) (o : Obj) : OwnG t k enc (w.alloc o) base v L := h.since ((Since.refl w).alloc o)
theorem OwnG.keep (h : OwnG t k enc w base v L) (hk : ∀ b, base ≤ b → b < w.heap.size → w'.heap[b]? = w.heap[b]?) : OwnG t k enc w' base v L := by
  refine ⟨h.1, ?_⟩
  rcases h.2 with h0 | ⟨g, cap, cur, e1, hb, hh, r⟩
  · exact .inl h0
  · refine .inr ⟨g, cap, cur, e1, hb, ?_, r⟩
    have hlt : g < w.heap.size := by
      rcases Nat.lt_or_ge g w.heap.size with hlt | hge
      · exact hlt
      · rw [Array.getElem?_eq_none hge] at hh; cases hh
    rw [hk g hb hlt]; exact hh
theorem OwnG.lt (h : OwnG t k enc w base v L) {g : Nat} (hg : v.ownBlock = some g) : base ≤ g ∧ g < w.heap.size := by
  rcases h.2 with ⟨rfl, _⟩ | ⟨g', c', cur, rfl, hb, hh, _⟩
  · cases hg
  · simp only [Value.ownBlock, Option.some.injEq] at hg
    subst hg
    rcases Nat.lt_or_ge g' w.heap.size with hlt | hge
    · exact ⟨hb, hlt⟩
    · rw [Array.getElem?_eq_none hge] at hh; cases hh
/-- .. kept where another block is grown. -/
theorem OwnG.grown {row : Option Nat} (h : OwnG t k enc w base v L) (hg : w.grownBy w' row) (hb : ∀ q, v.ownBlock = some q → row ≠ some q) : OwnG t k enc w' base v L := by
  refine ⟨h.1, ?_⟩
  rcases h.2 with h0 | ⟨g, cap, cur, rfl, hb', hh, r⟩
  · exact .inl h0
  · refine .inr ⟨g, cap, cur, rfl, hb', ?_, r⟩
    have hlt : g < w.heap.size := by
      rcases Nat.lt_or_ge g w.heap.size with hlt | hge
      · exact hlt
      · rw [Array.getElem?_eq_none hge] at hh; cases hh
    rw [hg.block g hlt (fun e => hb g rfl e.symm)]; exact hh
/-- What an own row reads as. -/
theorem OwnG.rd (hk0 : 0 < k) (hk : ∀ a, (enc a).length = k) (h : OwnG t k enc w base v L) : ∃ A c, v = .slice A L.length c ∧ L.length ≤ c ∧ RdG k enc w w.heap.size A L := by
  unfold OwnG at h
  rw [cellsG_tab hk] at h
  obtain ⟨A, c, rfl, hc, hr, _⟩ := own_k hk0 h
  refine ⟨A, c, rfl, hc, fun hn => ?_⟩
  obtain ⟨b, o, rfl, hb, hcell⟩ := hr (Nat.mul_pos hn hk0)
  refine ⟨b, o, rfl, hb, fun j s hj i hi => ?_⟩
  have hjl : j < L.length := by
    rcases Nat.lt_or_ge j L.length with h | h
    · exact h
    · rw [List.getElem?_eq_none h] at hj; cases hj
  have hlt : j * k + i < L.length * k := by
    have h1 : (j + 1) * k ≤ L.length * k := Nat.mul_le_mul_right _ hjl
    rw [Nat.succ_mul] at h1
    omega
  have h1 : w.cell? ⟨b, o + (j * k + i), none⟩ = some ((cellsG enc L).getD (j * k + i) undef) := hcell (j * k + i) hlt
  rw [List.getD_eq_getElem?_getD, cellsG_get hk L j s hj i hi, ← List.getD_eq_getElem?_getD, ← Nat.add_assoc] at h1
  exact h1
end
section
variable {P : Program}
/-- append of a slice to an own row. -/
theorem wpList_append_g {w : World} {ops : Array Oper} {rest : List Oper} {o : Oper} {a : Act} {Q : Exit → Act → World → Prop} (hgd : o.guard = none) (s x : Operand) (t e : TypeId)
    (ho : o.op = .call { callee := .builtin .append, args := #[s, x], argTypes := #[t, t] }) (hk0 : 0 < k) (hk : ∀ a, (enc a).length = k) (h1 : ∀ a, ∀ u ∈ enc a, u.oneCell' = true) (bytes : Nat)
    (ht : P.underlying t = some (.slice e)) (hinfo : ∃ i z, P.info? e = some i ∧ i.zero = some z ∧ i.size = k ∧ i.bytes = bytes ∧ z.cells.size = k)
    (base : Nat) (v : Value) (L : List α) (hs : a.eval s = v) (hown : OwnG e k enc w base v L) (B : Nat) (A : Option Addr) (c : Nat) (M : List α) (hx : a.eval x = .slice A M.length c) (hr : RdG k enc w B A M)
    (hbytes : (L.length + M.length) * bytes ≤ 140737488355328) (h63 : L.length + M.length ≤ maxLen) (hbase : base ≤ w.heap.size)
    (h : ∀ v' w', OwnG e k enc w' base v' (L ++ M) → w.grownBy w' v.ownBlock → (∀ q, v.ownBlock = some q → base ≤ q ∧ q < w.heap.size) → wpList P ops Q rest (a.put o.dst v') w') :
    wpList P ops Q (o :: rest) a w := by
  obtain ⟨i, z, hi, hz, hsz, hby, hzs⟩ := hinfo
  have hrr : Rd w B A (M.length * k) (fun j => (cellsG enc M).getD j undef) := fun hn => by
    have hM : 0 < M.length := by
      rcases Nat.eq_zero_or_pos M.length with h | h
      · rw [h, Nat.zero_mul] at hn; omega
      · exact h
    obtain ⟨b, o', rfl, hb, hc⟩ := hr hM
    refine ⟨b, o', rfl, hb, fun j hj => ?_⟩
    have hjk : j / k < M.length := by rw [Nat.div_lt_iff_lt_mul hk0]; exact hj
    have hm := Nat.mod_lt j hk0
    have hg := hc (j / k) _ (List.getElem?_eq_getElem hjk) (j % k) hm
    have hg2 := cellsG_get hk M (j / k) _ (List.getElem?_eq_getElem hjk) (j % k) hm
    rw [Nat.div_add_mod' j k] at hg2
    rw [Nat.add_assoc, Nat.div_add_mod' j k] at hg
    show _ = some ((cellsG enc M).getD j undef)
    rw [List.getD_eq_getElem?_getD, hg2, ← List.getD_eq_getElem?_getD]
    exact hg
  have hone : ∀ u ∈ tab (M.length * k) (fun j => (cellsG enc M).getD j undef), u.oneCell' = true := by
    rw [← cellsG_tab hk]
    intro u hu
    unfold cellsG at hu
    rw [List.mem_flatMap] at hu
    obtain ⟨a, _, ha⟩ := hu
    exact h1 a u ha
  have hlt := fun q (hq : v.ownBlock = some q) => hown.lt hq
  refine wpList_append_k w hgd s x t ho base e i z k bytes ht hi hz hsz hby hzs hk0 v L.length (cellsG enc L) hs hown B A M.length c _ hx hrr hone hbytes h63 hbase (fun v' w' h9 hg => h v' w' ?_ hg hlt)
  rw [← cellsG_tab hk, ← cellsG_append] at h9
  unfold OwnG
  rw [List.length_append]
  exact h9
end
/-- A new block that holds one element's cells. -/
theorem rdG_one {w : World} {cs : Array Value} {ty : TypeId} {b : Nat} (hb : b = w.heap.size) (s : α) (h : ∀ i, i < k → cs[i]? = some ((enc s).getD i undef)) : RdG k enc (w.alloc (.cells cs ty)) (w.alloc (.cells cs ty)).heap.size (some ⟨b, 0, none⟩) [s] := fun _ => by
  subst hb
  refine ⟨w.heap.size, 0, rfl, by simp, fun j s' hj i hi => ?_⟩
  cases j with
  | zero =>
    simp only [List.getElem?_cons_zero, Option.some.injEq] at hj
    subst hj
    rw [World.cell?_alloc_new, Nat.zero_mul, Nat.zero_add]
    exact h i hi
  | succ j => simp at hj
/-- .. and of some elements. -/
theorem rdG_lit {w : World} {cs : Array Value} {ty : TypeId} {b : Nat} (hb : b = w.heap.size) (L : List α) (h : ∀ j s, L[j]? = some s → ∀ i, i < k → cs[0 + j * k + i]? = some ((enc s).getD i undef)) : RdG k enc (w.alloc (.cells cs ty)) (w.alloc (.cells cs ty)).heap.size (some ⟨b, 0, none⟩) L := fun _ => by
  subst hb
  refine ⟨w.heap.size, 0, rfl, by simp, fun j s hj i hi => ?_⟩
  rw [World.cell?_alloc_new]
  exact h j s hj i hi
end
theorem Row.grownB {w w' : World} {b n : Nat} {row : Option Nat} {f : Nat → Value} (h : Row w b n f) (hg : w.grownBy w' row) (hb : row ≠ some b) : Row w' b n f := by
  have e := hg.block b h.2.2 (fun x => hb x.symm)
  refine ⟨fun j hj => ?_, fun j => ?_, Nat.lt_of_lt_of_le h.2.2 hg.size⟩
  · rw [← h.1 j hj]; simp only [World.cell?, e]
  · rw [← h.2.1 j]; simp only [World.frozen?, e]
theorem cell_grown {w w' : World} {b o : Nat} {row : Option Nat} {v : Value} (h : w.cell? ⟨b, o, none⟩ = some v) (hb : b < w.heap.size) (hg : w.grownBy w' row) (hr : row ≠ some b) : w'.cell? ⟨b, o, none⟩ = some v := by
  have e := hg.block b hb (fun x => hr x.symm)
  rw [← h]; simp only [World.cell?, e]
end Go.Proofs.YtcfghkphkmoikaaGreat

/-
  Lists of points: what they are in memory, a point more where it isn't the last one, a captured list.
-/
namespace Go.Proofs.YtcfghkphkmoikaaGreat
set_option maxRecDepth 100000
open Go.RowKit Go.ChangeShapes Go.WideShapes Go.Deep
set_option linter.unusedVariables false

/-- A point. -/
structure Pq where
  (x y : Int)
def ptL (p : Pq) : List Value := [.int .i64 p.x, .int .i64 p.y]
theorem ptL_len (p : Pq) : (ptL p).length = 2 := rfl
theorem ptL_one (p : Pq) : ∀ u ∈ ptL p, u.oneCell' = true := by
  intro u hu
  simp only [ptL, List.mem_cons, List.not_mem_nil, or_false] at hu
  rcases hu with rfl | rfl <;> rfl
def addP (L : List Pq) (p : Pq) : List Pq := match L.getLast? with
  | some l => if l.x == p.x && l.y == p.y then L else L ++ [p]
  | none => L ++ [p]
theorem infoPt0 : (Tryz.prog.info? 23).map (fun i => (i.zero, i.size, i.bytes)) = some (some (.agg #[.int .i64 0, .int .i64 0]), 2, 16) := by kernel_rfl
theorem infoPt : ∃ i z, Tryz.prog.info? 23 = some i ∧ i.zero = some z ∧ i.size = 2 ∧ i.bytes = 16 ∧ z.cells.size = 2 := by
  obtain ⟨i0, hi, hz0, hz1, hz2⟩ := info_parts infoPt0
  exact ⟨i0, _, hi, hz0, hz1, hz2, rfl⟩
theorem pt_one (w : World) (b : Nat) (hb : b = w.heap.size) (ty : TypeId) (p : Pq) : RdG 2 ptL (w.alloc (.cells #[.int .i64 p.x, .int .i64 p.y] ty)) (w.alloc (.cells #[.int .i64 p.x, .int .i64 p.y] ty)).heap.size (some ⟨b, 0, none⟩) [p] :=
  rdG_one hb p (fun i hi => by
    have h : i = 0 ∨ i = 1 := by omega
    rcases h with rfl | rfl <;> rfl)
def lastNe (L : List Pq) (p : Pq) : Bool := match L.getLast? with
  | some l => !(l.x == p.x && l.y == p.y)
  | none => true
theorem addP_eq (L : List Pq) (p : Pq) : addP L p = if lastNe L p then L ++ [p] else L := by
  unfold addP lastNe
  cases L.getLast? with
  | none => rfl
  | some l => by_cases h1 : l.x = p.x <;> by_cases h2 : l.y = p.y <;> simp [h1, h2]
/-- A captured list of points. -/
def CapP (w0 w : World) (bl : Nat) (L : List Pq) : Prop := ∃ v, w.heap[bl]? = some (Obj.cells #[v] 28 (0, 0)) ∧ OwnG 23 2 ptL w (bl + 1) v L ∧ Since w0 w ∧ w0.heap.size ≤ bl
theorem CapP.since {w0 w w' : World} {bl : Nat} {L : List Pq} (h : CapP w0 w bl L) (k : Since w w') : CapP w0 w' bl L := by
  obtain ⟨v, h1, h2, h3, h4⟩ := h
  have hlt : bl < w.heap.size := by
    rcases Nat.lt_or_ge bl w.heap.size with h | h
    · exact h
    · rw [Array.getElem?_eq_none h] at h1; cases h1
  exact ⟨v, (k.below.block bl hlt).trans h1, h2.since k, h3.trans k, h4⟩
/-- A row of another type is not the own block. -/
theorem OwnG.ne {α : Type} {enc : α → List Value} {t t' : TypeId} {k base b : Nat} {w : World} {v : Value} {L : List α} {cs : Array Value} (h : OwnG t k enc w base v L) (hne : t ≠ t') (hb : w.heap[b]? = some (Obj.cells cs t' (0, 0))) : v.ownBlock ≠ some b := by
  rcases h.2 with ⟨rfl, _⟩ | ⟨g, cap, cur, rfl, hb', hh, r⟩
  · simp [Value.ownBlock]
  · intro e
    simp only [Value.ownBlock, Option.some.injEq] at e
    subst e
    rw [hb] at hh
    simp only [Option.some.injEq, Obj.cells.injEq] at hh
    exact hne hh.2.1.symm
theorem OwnG.lower' {α : Type} {enc : α → List Value} {t : TypeId} {k base base' : Nat} {w : World} {v : Value} {L : List α} (h : OwnG t k enc w base v L) (hb : base' ≤ base) : OwnG t k enc w base' v L := by
  refine ⟨h.1, ?_⟩
  rcases h.2 with h0 | ⟨g, cap, cur, e1, hb', r⟩
  · exact .inl h0
  · exact .inr ⟨g, cap, cur, e1, by omega, r⟩
theorem addP_len (L : List Pq) (p : Pq) : (addP L p).length ≤ L.length + 1 := by
  rw [addP_eq]
  split <;> simp
end Go.Proofs.YtcfghkphkmoikaaGreat

/-
  Rows that a call has made: 'make', and stores into them, of anything.
-/
namespace Go.Proofs.YtcfghkphkmoikaaGreat
set_option maxRecDepth 100000
open Go.RowKit Go.ChangeShapes Go.WideShapes Go.Deep
set_option linter.unusedVariables false

theorem OwnG.but {α : Type} {enc : α → List Value} {t : TypeId} {k base q : Nat} {w w' : World} {v : Value} {L : List α} (h : OwnG t k enc w base v L) (hk : KeepBut q w w') (hq : v.ownBlock ≠ some q) : OwnG t k enc w' base v L := by
  refine ⟨h.1, ?_⟩
  rcases h.2 with h0 | ⟨g, cap, cur, rfl, hb, hh, r⟩
  · exact .inl h0
  · refine .inr ⟨g, cap, cur, rfl, hb, ?_, r⟩
    have hlt : g < w.heap.size := by
      rcases Nat.lt_or_ge g w.heap.size with hlt | hge
      · exact hlt
      · rw [Array.getElem?_eq_none hge] at hh; cases hh
    rw [hk.2 g hlt (fun e => hq (by rw [← e]; rfl))]; exact hh
section
variable {α : Type} {k : Nat} {enc : α → List Value} {P : Program}
theorem made_cells (hk0 : 0 < k) (hk : ∀ a, (enc a).length = k) (z0 : α) (z : Array Value) (hz : z.toList = enc z0) (n : Nat) : (madeCells z (n * k)).toList = cellsG enc (List.replicate n z0) := by
  have hzs : z.size = k := by rw [← Array.length_toList, hz, hk]
  apply List.ext_getElem?
  intro j
  by_cases hj : j < n * k
  · have hjk : j / k < n := by rw [Nat.div_lt_iff_lt_mul hk0]; exact hj
    have hm := Nat.mod_lt j hk0
    have h1 := cellsG_get hk (List.replicate n z0) (j / k) z0 (by simp [hjk]) (j % k) hm
    rw [Nat.div_add_mod' j k] at h1
    rw [h1, ← hz]
    have h2 : j % k < z.size := by omega
    simp [madeCells, hj, hzs]
    rw [getElem!_pos z _ h2, getElem?_pos z _ h2]
  · rw [List.getElem?_eq_none (by simp [madeCells]; omega), List.getElem?_eq_none (by rw [cellsG_len hk]; simp; omega)]
/-- make([]T, n): an own row of zero values. -/
theorem wpList_make_g {w : World} {ops : Array Oper} {rest : List Oper} {o : Oper} {a : Act} {Q : Exit → Act → World → Prop}
    (hg : o.guard = none) (l c : Operand) (t e : TypeId) (hop : o.op = Op.makeSlice t l c) (hk0 : 0 < k) (hk : ∀ a, (enc a).length = k) (bytes : Nat) (z0 : α)
    (ht : P.underlying t = some (.slice e)) (hinfo : ∃ i z, P.info? e = some i ∧ i.zero = some z ∧ i.size = k ∧ i.bytes = bytes ∧ z.cells.toList = enc z0)
    (n : Nat) (hl : a.eval l = .int .i64 (n : Int)) (hc : a.eval c = .int .i64 (n : Int)) (b2 : bytes * n ≤ 281474976710656) (b3 : n ≤ maxLen)
    (base : Nat) (hbase : base ≤ w.heap.size)
    (hK : ∀ w', OwnG e k enc w' base (.slice (some ⟨w.heap.size, 0, none⟩) n n) (List.replicate n z0) → w.grownBy w' none → wpList P ops Q rest (a.put o.dst (.slice (some ⟨w.heap.size, 0, none⟩) n n)) w') :
    wpList P ops Q (o :: rest) a w := by
  obtain ⟨i, z, hi, hz, hsz, hby, hzc⟩ := hinfo
  refine wpList_make_full w hg l c t hop base e i z k ht hi hz hsz .i64 .i64 (n : Int) (n : Int) n hl hc rfl rfl (by rw [hby]; exact b2) b3 hbase (fun w' hown hgr => hK w' ?_ hgr)
  rw [made_cells hk0 hk z0 z.cells hzc] at hown
  unfold OwnG
  rw [List.length_replicate]
  exact hown
end
theorem set_app {α : Type} (A B : List α) (j : Nat) (v : α) : (A ++ B).set (A.length + j) v = A ++ B.set j v := by
  rw [List.set_append_right _ _ (by omega)]
  congr 2
  omega
/-- Cells set one behind the other. -/
def setRun : List Value → Nat → List Value → List Value
  | cs, _, [] => cs
  | cs, p, v :: vs => setRun (cs.set p v) (p + 1) vs
theorem setRun_app (A B : List Value) : ∀ (vs : List Value) (j : Nat), setRun (A ++ B) (A.length + j) vs = A ++ setRun B j vs := by
  intro vs
  induction vs generalizing B with
  | nil => intro j; rfl
  | cons v vs ih =>
    intro j
    unfold setRun
    rw [set_app, Nat.add_assoc, ih]
theorem setRun_all : ∀ (vs A B C : List Value), B.length = vs.length → setRun (A ++ B ++ C) A.length vs = A ++ vs ++ C
  | [], A, B, C, h => by
    have : B = [] := List.length_eq_zero_iff.1 h
    subst this; simp [setRun]
  | v :: vs, A, [], C, h => by simp at h
  | v :: vs, A, b :: B, C, h => by
    unfold setRun
    have e : (A ++ (b :: B) ++ C).set A.length v = (A ++ [v]) ++ B ++ C := by
      rw [List.append_assoc, List.set_append_right _ _ (Nat.le_refl _)]
      simp
    rw [e, show A.length + 1 = (A ++ [v]).length by simp, setRun_all vs (A ++ [v]) B C (by simpa using h)]
    simp
section
variable {α : Type} {k : Nat} {enc : α → List Value}
theorem cellsG_put (hk : ∀ a, (enc a).length = k) (x : α) : ∀ (L : List α) (i : Nat), i < L.length → setRun (cellsG enc L) (i * k) (enc x) = cellsG enc (L.set i x)
  | [], i, h => by simp at h
  | a :: L, 0, h => by
    have e0 : cellsG enc (a :: L) = [] ++ enc a ++ cellsG enc L := by simp [cellsG]
    have e1 : cellsG enc (x :: L) = [] ++ enc x ++ cellsG enc L := by simp [cellsG]
    rw [List.set_cons_zero, e0, e1, Nat.zero_mul]
    exact setRun_all (enc x) [] (enc a) (cellsG enc L) (by rw [hk, hk])
  | a :: L, i + 1, h => by
    have ih := cellsG_put hk x L i (by simpa using h)
    have e0 : cellsG enc (a :: L) = enc a ++ cellsG enc L := by simp [cellsG]
    have e1 : cellsG enc ((a :: L).set (i + 1) x) = enc a ++ cellsG enc (L.set i x) := by simp [cellsG]
    rw [e0, e1, ← ih, show (i + 1) * k = (enc a).length + i * k by rw [hk, Nat.succ_mul]; omega, setRun_app]
/-- Cells of a block set one behind the other. -/
def setRunW : World → Nat → Nat → List Value → World
  | w, _, _, [] => w
  | w, q, p, v :: vs => setRunW (w.setCell ⟨q, p, none⟩ v) q (p + 1) vs
theorem owns_run {e : TypeId} {base size q n c : Nat} : ∀ (vs : List Value) (w : World) (p : Nat) (xs : List Value), w.ownsRow base e size (.slice (some ⟨q, 0, none⟩) n c) n xs → (setRunW w q p vs).ownsRow base e size (.slice (some ⟨q, 0, none⟩) n c) n (setRun xs p vs)
  | [], w, p, xs, h => h
  | v :: vs, w, p, xs, h => owns_run vs _ (p + 1) _ (World.ownsRow.stored h p v).1
/-- An element stored into an own row. -/
theorem OwnG.put {t : TypeId} {w : World} {base q n c : Nat} {L : List α} (hk : ∀ a, (enc a).length = k) (h : OwnG t k enc w base (.slice (some ⟨q, 0, none⟩) n c) L) (i : Nat) (x : α) (hi : i < L.length) :
    OwnG t k enc (setRunW w q (i * k) (enc x)) base (.slice (some ⟨q, 0, none⟩) n c) (L.set i x) := by
  have hn : n = L.length := by
    rcases h.2 with ⟨h0, _⟩ | ⟨g, cap, cur, h0, _⟩
    · cases h0
    · injection h0 with _ h1 _
  subst hn
  have h2 := owns_run (enc x) w (i * k) _ h
  rw [cellsG_put hk x L i hi] at h2
  unfold OwnG
  rw [List.length_set]
  exact h2
end
end Go.Proofs.YtcfghkphkmoikaaGreat

/-
  Headers of slices as elements; own rows of different element types lie apart.
-/
namespace Go.Proofs.YtcfghkphkmoikaaGreat
set_option maxRecDepth 100000
open Go.RowKit Go.ChangeShapes Go.WideShapes Go.Deep
set_option linter.unusedVariables false

/-- A contour's header. -/
structure Hd where
  (A : Option Addr) (n c : Nat)
def hdL (h : Hd) : List Value := [.slice h.A h.n h.c]
theorem hdL_len (h : Hd) : (hdL h).length = 1 := rfl
theorem hdL_one (h : Hd) : ∀ u ∈ hdL h, u.oneCell' = true := by
  intro u hu
  simp only [hdL, List.mem_cons, List.not_mem_nil, or_false] at hu
  subst hu
  rfl
theorem hd_one (w : World) (b : Nat) (hb : b = w.heap.size) (ty : TypeId) (h : Hd) : RdG 1 hdL (w.alloc (.cells #[.slice h.A h.n h.c] ty)) (w.alloc (.cells #[.slice h.A h.n h.c] ty)).heap.size (some ⟨b, 0, none⟩) [h] :=
  rdG_one hb h (fun i hi => by
    obtain rfl : i = 0 := by omega
    rfl)
theorem own_apart {α β : Type} {e1 : α → List Value} {e2 : β → List Value} {t1 t2 : TypeId} {k1 k2 b1 b2 : Nat} {w : World} {v1 v2 : Value} {L1 : List α} {L2 : List β} (h1 : OwnG t1 k1 e1 w b1 v1 L1) (h2 : OwnG t2 k2 e2 w b2 v2 L2) (ht : t1 ≠ t2) {q : Nat} (hq : v1.ownBlock = some q) : v2.ownBlock ≠ some q := by
  intro hq2
  rcases h1.2 with ⟨rfl, _⟩ | ⟨g, c, cur, rfl, _, hh, _⟩
  · cases hq
  · rcases h2.2 with ⟨rfl, _⟩ | ⟨g', c', cur', rfl, _, hh', _⟩
    · cases hq2
    · simp only [Value.ownBlock, Option.some.injEq] at hq hq2
      subst hq
      subst hq2
      rw [hh] at hh'
      injection hh' with hh'
      injection hh' with _ e _
      exact ht e
end Go.Proofs.YtcfghkphkmoikaaGreat

/-
  Rows told by a list: parts of what is read; append in a region that draws its order.
-/
namespace Go.Proofs.YtcfghkphkmoikaaGreat
set_option maxRecDepth 100000
open Go.RowKit Go.ChangeShapes Go.WideShapes Go.Deep
set_option linter.unusedVariables false

theorem OwnG.empty {α : Type} {enc : α → List Value} {k : Nat} (t : TypeId) (w : World) (base b : Nat) (hb : b = w.heap.size) (hbase : base ≤ w.heap.size) : OwnG t k enc (w.alloc (.cells #[] t)) base (.slice (some ⟨b, 0, none⟩) 0 0) [] := by
  subst hb
  exact ⟨by simp [cellsG], .inr ⟨w.heap.size, 0, _, rfl, hbase, heap_alloc_new w _, Nat.le_refl _, by simp [maxLen], by simp, by simp [cellsG]⟩⟩
theorem RdG.drop {α : Type} {enc : α → List Value} {k : Nat} {w : World} {B b o : Nat} {L : List α} (h : RdG k enc w B (some ⟨b, o, none⟩) L) (d : Nat) : RdG k enc w B (some ⟨b, o + d * k, none⟩) (L.drop d) := fun hn => by
  obtain ⟨b', o', e, hb, hc⟩ := h (by rw [List.length_drop] at hn; omega)
  injection e with e
  injection e with e1 e2
  subst e1 e2
  refine ⟨b, o + d * k, rfl, hb, fun j s hj i hi => ?_⟩
  rw [List.getElem?_drop] at hj
  have h1 := hc (d + j) s hj i hi
  rw [Nat.add_mul, ← Nat.add_assoc] at h1
  exact h1
theorem RdG.take {α : Type} {enc : α → List Value} {k : Nat} {w : World} {B : Nat} {A : Option Addr} {L : List α} (h : RdG k enc w B A L) (d : Nat) : RdG k enc w B A (L.take d) := fun hn => by
  obtain ⟨b, o, rfl, hb, hc⟩ := h (by rw [List.length_take] at hn; omega)
  refine ⟨b, o, rfl, hb, fun j s hj i hi => hc j s ?_ i hi⟩
  rw [List.getElem?_take] at hj
  split at hj
  · exact hj
  · cases hj
section
variable {α : Type} {k : Nat} {enc : α → List Value} {P : Program}
theorem oper_append_g {w : World} {o : Oper} {a : Act} {K : Act → World → Prop} {Q : Exit → Act → World → Prop} (s x : Operand) (t e : TypeId)
    (ho : o.op = .call { callee := .builtin .append, args := #[s, x], argTypes := #[t, t] }) (hk0 : 0 < k) (hk : ∀ a, (enc a).length = k) (h1 : ∀ a, ∀ u ∈ enc a, u.oneCell' = true) (bytes : Nat)
    (ht : P.underlying t = some (.slice e)) (hinfo : ∃ i z, P.info? e = some i ∧ i.zero = some z ∧ i.size = k ∧ i.bytes = bytes ∧ z.cells.size = k)
    (base : Nat) (v : Value) (L : List α) (hs : a.eval s = v) (hown : OwnG e k enc w base v L) (B : Nat) (A : Option Addr) (n c : Nat) (M : List α) (hn : n = M.length) (hx : a.eval x = .slice A n c) (hr : RdG k enc w B A M)
    (hbytes : (L.length + M.length) * bytes ≤ 140737488355328) (h63 : L.length + M.length ≤ maxLen) (hbase : base ≤ w.heap.size)
    (h : ∀ v' w', OwnG e k enc w' base v' (L ++ M) → w.grownBy w' v.ownBlock → (∀ q, v.ownBlock = some q → base ≤ q ∧ q < w.heap.size) → K (a.put o.dst v') w') :
    Oper.wp P o a w K Q := by
  subst hn
  obtain ⟨i, z, hi, hz, hsz, hby, hzs⟩ := hinfo
  have hrr : Rd w B A (M.length * k) (fun j => (cellsG enc M).getD j undef) := fun hn => by
    have hM : 0 < M.length := by
      rcases Nat.eq_zero_or_pos M.length with h | h
      · rw [h, Nat.zero_mul] at hn; omega
      · exact h
    obtain ⟨b, o', rfl, hb, hc⟩ := hr hM
    refine ⟨b, o', rfl, hb, fun j hj => ?_⟩
    have hjk : j / k < M.length := by rw [Nat.div_lt_iff_lt_mul hk0]; exact hj
    have hm := Nat.mod_lt j hk0
    have hg := hc (j / k) _ (List.getElem?_eq_getElem hjk) (j % k) hm
    have hg2 := cellsG_get hk M (j / k) _ (List.getElem?_eq_getElem hjk) (j % k) hm
    rw [Nat.div_add_mod' j k] at hg2
    rw [Nat.add_assoc, Nat.div_add_mod' j k] at hg
    show _ = some ((cellsG enc M).getD j undef)
    rw [List.getD_eq_getElem?_getD, hg2, ← List.getD_eq_getElem?_getD]
    exact hg
  have hone : ∀ u ∈ tab (M.length * k) (fun j => (cellsG enc M).getD j undef), u.oneCell' = true := by
    rw [← cellsG_tab hk]
    intro u hu
    unfold cellsG at hu
    rw [List.mem_flatMap] at hu
    obtain ⟨a, _, ha⟩ := hu
    exact h1 a u ha
  have hlt := fun q (hq : v.ownBlock = some q) => hown.lt hq
  obtain ⟨v', w', hrun, h2, h3⟩ := run_append_k (P := P) w base t o.type e i z k bytes ht hi hz hsz hby hzs hk0 v L.length (cellsG enc L) hown B A M.length c _ hrr hone hbytes h63 hbase
  rw [← cellsG_tab hk, ← cellsG_append] at h2
  unfold Oper.wp execOp
  simp only [ho, resolve, invoke, builtin, Sem.run_bind, Sem.run_pure, Result.andThen_ok, List.map_toArray, List.map_cons, List.map_nil, hs, hx, hrun]
  refine h v' w' ?_ h3 hlt
  unfold OwnG
  rw [List.length_append]
  exact h2
end
end Go.Proofs.YtcfghkphkmoikaaGreat

/-
  A slice of values of k cells each that came in, its own form known.
-/
namespace Go.Proofs.YtcfghkphkmoikaaGreat
set_option maxRecDepth 100000
open Go.RowKit Go.ChangeShapes Go.WideShapes Go.Deep
set_option linter.unusedVariables false
section
variable {H : Type} {enc : TypeId × Value → H} {P : Program} {W : World}
theorem open_flat2 {t e : TypeId} {k : Nat} {v : Value} {d : DataW H} {ps : List MemPlace} (ht : P.underlying t = some (.slice e)) (ce : P.cellsOf e = k) (hk : 0 < k)
    (hval : ∃ A n c, v = .slice A n c) (h : DataW.Trod enc P W 0 (fun _ => true) true t v d ps) (hlt : ∀ x ∈ ps, x.block < W.heap.size) :
    ∃ (A : Option Addr) (n c : Nat) (V : Nat → Value), v = .slice A n c ∧ n ≤ c ∧ c ≤ maxLen ∧ Rd W W.heap.size A (n * k) V ∧ (∀ i, i < n → ∃ m x, DataW.trod enc P W 0 (fun _ => true) true m e (tab k (fun j => V (i * k + j))) = some x) ∧ (c = 0 ∨ ∃ el sp, d = .slice el sp ∧ el.length + sp.length = c) := by
  obtain ⟨A, n, c, rfl⟩ := hval
  obtain ⟨fuel, hf⟩ := h
  rcases open_slice ht hf with ⟨hcs, hx⟩ | ⟨a, len, cap, m, z, D, Pl, hcs, _, hl, hm, hmm, hx, hall⟩
  · simp [Value.cells] at hcs
    obtain ⟨rfl, rfl, rfl⟩ := hcs
    exact ⟨none, 0, 0, fun _ => undef, rfl, Nat.le_refl _, Nat.zero_le _, by rw [Nat.zero_mul]; exact Rd.zero, fun j hj => absurd hj (by omega), .inl rfl⟩
  · simp [Value.cells] at hcs
    obtain ⟨rfl, rfl, rfl⟩ := hcs
    simp only [if_true] at hmm
    subst hmm
    simp only [Prod.mk.injEq] at hx
    obtain ⟨rfl, rfl⟩ := hx
    have each : ∀ j, j < m → ∃ cs : List Value, cs.length = k ∧ (∀ i, i < k → W.cell? (a.add (j * k + i)) = cs[i]?) ∧ ∃ m' x, DataW.trod enc P W 0 (fun _ => true) true m' e cs = some x := by
      intro j hj
      obtain ⟨cs', g1, g2⟩ := hall j hj
      rw [ce] at g1
      obtain ⟨_, hlen, hcell⟩ := World.cells?_some g1
      refine ⟨cs', hlen, fun i hi => ?_, _, _, g2⟩
      have c0 := hcell i (by omega)
      rw [add_add] at c0
      exact c0
    obtain ⟨q, hq⟩ := choose_lt each
    have hV : ∀ j, j < m → ∀ i, i < k → W.cell? (a.add (j * k + i)) = some ((q j).getD i undef) := fun j hj i hi => by
      obtain ⟨h1, h2, _⟩ := hq j hj
      rw [h2 i hi, List.getElem?_eq_getElem (by omega)]
      simp [List.getD, show i < (q j).length by omega]
    refine ⟨some a, n, m, fun j => (q (j / k)).getD (j % k) undef, rfl, hl, hm, ?_, fun i hi => ?_, .inr ⟨_, _, rfl, ?_⟩⟩
    · intro hn
      have hspot : a.spot = none := by
        have h0 := hV 0 (by rcases Nat.eq_zero_or_pos m with h0 | h0 <;> (try subst h0) <;> (try simp at hl) <;> (try subst hl) <;> (try simp at hn) <;> omega) 0 hk
        rw [Nat.zero_mul, Nat.add_zero] at h0
        cases hsp : a.spot with
        | none => rfl
        | some s =>
          have e : (a.add 0).spot = some s := by unfold Addr.add; split <;> simp_all
          simp only [World.cell?] at h0
          split at h0
          · simp [e] at h0
          · cases h0
      obtain ⟨b, o, s⟩ := a
      simp only at hspot
      subst hspot
      have hmk : 0 < m * k := Nat.lt_of_lt_of_le hn (Nat.mul_le_mul_right _ hl)
      refine ⟨b, o, rfl, hlt (.cell b (o + 0)) (List.mem_append_left _ (MemPlace.mem_row.2 ⟨0, by rw [ce]; exact hmk, rfl⟩)), fun j hj => ?_⟩
      have hjk : j / k < m := by rw [Nat.div_lt_iff_lt_mul hk]; exact Nat.lt_of_lt_of_le hj (Nat.mul_le_mul_right _ hl)
      have h1 := hV (j / k) hjk (j % k) (Nat.mod_lt _ hk)
      rw [Nat.div_add_mod' j k] at h1
      rw [← add_plain]
      exact h1
    · obtain ⟨h1, h2, m', x, h3⟩ := hq i (by omega)
      refine ⟨m', x, ?_⟩
      rw [← h3]
      congr 1
      apply List.ext_getElem?
      intro j
      rw [tab_get]
      split
      · rename_i hj
        have e1 : (i * k + j) / k = i := by rw [Nat.add_comm, Nat.add_mul_div_right _ _ hk, Nat.div_eq_of_lt hj, Nat.zero_add]
        have e2 : (i * k + j) % k = j := by rw [Nat.add_comm, Nat.add_mul_mod_self_right, Nat.mod_eq_of_lt hj]
        simp only [e1, e2]
        rw [List.getElem?_eq_getElem (by omega)]
        simp [List.getD, show j < (q i).length by omega]
      · rw [List.getElem?_eq_none (by omega)]
    · simp; omega
end
end Go.Proofs.YtcfghkphkmoikaaGreat
