/-
  Rows of elements of k cells each, told by a list of anything: own rows, rows that are read, append.
-/
import Derived.Test.YtpplnapfpoloiaaKit9
namespace Go.Proofs.Ytpplnapfpoloiaa
open Go.RowKit Go.ChangeShapes Go.WideShapes Go.Deep
set_option linter.unusedVariables false

section
variable {α : Type} {k : Nat} {enc : α → List Value}
def cellsG (enc : α → List Value) (L : List α) : List Value := L.flatMap enc
theorem cellsG_snoc (L : List α) (s : α) : cellsG enc (L ++ [s]) = cellsG enc L ++ enc s := by unfold cellsG; simp
theorem cellsG_append (L M : List α) : cellsG enc (L ++ M) = cellsG enc L ++ cellsG enc M := by unfold cellsG; simp
theorem cellsG_len (hk : ∀ a, (enc a).length = k) : ∀ L : List α, (cellsG enc L).length = L.length * k
  | [] => by simp [cellsG]
  | s :: L => by
    have ih := cellsG_len hk L
    unfold cellsG at ih ⊢
    rw [List.flatMap_cons, List.length_append, ih, List.length_cons, hk, Nat.succ_mul, Nat.add_comm]
theorem cellsG_get (hk : ∀ a, (enc a).length = k) : ∀ (L : List α) (j : Nat) (s : α), L[j]? = some s → ∀ i, i < k → (cellsG enc L)[j * k + i]? = (enc s)[i]?
  | [], j, s, h, i, hi => by simp at h
  | a :: L, 0, s, h, i, hi => by
    simp only [List.getElem?_cons_zero, Option.some.injEq] at h
    subst h
    unfold cellsG
    rw [List.flatMap_cons, Nat.zero_mul, Nat.zero_add, List.getElem?_append_left (by rw [hk]; exact hi)]
  | a :: L, j + 1, s, h, i, hi => by
    rw [List.getElem?_cons_succ] at h
    have ih := cellsG_get hk L j s h i hi
    unfold cellsG at ih ⊢
    have e : (j + 1) * k + i = k + (j * k + i) := by rw [Nat.succ_mul]; omega
    rw [List.flatMap_cons, e, List.getElem?_append_right (by rw [hk]; omega), hk, Nat.add_sub_cancel_left]
    exact ih
theorem cellsG_tab (hk : ∀ a, (enc a).length = k) (L : List α) : cellsG enc L = tab (L.length * k) (fun j => (cellsG enc L).getD j undef) := by
  apply List.ext_getElem?
  intro j
  rw [tab_get]
  split
  · rename_i h
    rw [List.getD_eq_getElem?_getD, List.getElem?_eq_getElem (by rw [cellsG_len hk]; exact h)]
    rfl
  · rename_i h
    rw [List.getElem?_eq_none (by rw [cellsG_len hk]; omega)]
/-- A slice's elements, in a block below B (nil and empty let in). -/
def RdG (k : Nat) (enc : α → List Value) (w : World) (B : Nat) (A : Option Addr) (L : List α) : Prop :=
  0 < L.length → ∃ b o, A = some ⟨b, o, none⟩ ∧ b < B ∧ ∀ j s, L[j]? = some s → ∀ i, i < k → w.cell? ⟨b, o + j * k + i, none⟩ = some ((enc s).getD i undef)
/-- An own row of such elements. -/
def OwnG (t : TypeId) (k : Nat) (enc : α → List Value) (w : World) (base : Nat) (v : Value) (L : List α) : Prop := w.ownsRow base t k v L.length (cellsG enc L)
section
variable {w w' : World} {B B' n : Nat} {A : Option Addr} {L : List α} {t : TypeId} {base : Nat} {v : Value}
theorem RdG.nil : RdG k enc w B A [] := fun h => absurd h (by simp)
theorem RdG.keep (h : RdG k enc w B A L) (hk : ∀ b o, b < B → w'.cell? ⟨b, o, none⟩ = w.cell? ⟨b, o, none⟩) : RdG k enc w' B A L := fun hn => by
  obtain ⟨b, o, rfl, hb, hc⟩ := h hn
  exact ⟨b, o, rfl, hb, fun j s hj i hi => (hk _ _ hb).trans (hc j s hj i hi)⟩
theorem RdG.more (h : RdG k enc w B A L) (hB : B ≤ B') : RdG k enc w B' A L := fun hn => by
  obtain ⟨b, o, rfl, hb, hc⟩ := h hn
  exact ⟨b, o, rfl, by omega, hc⟩
theorem RdG.since (h : RdG k enc w B A L) (hB : B ≤ w.heap.size) (s : Since w w') : RdG k enc w' B A L := h.keep fun b o hb => s.1 b o (by omega)
theorem RdG.on (h : RdG k enc w w.heap.size A L) (s : Since w w') : RdG k enc w' w'.heap.size A L := (h.keep fun b o hb => s.1 b o hb).more s.below.size
theorem OwnG.nil (t : TypeId) (k : Nat) (enc : α → List Value) (w : World) (base : Nat) : OwnG t k enc w base (.slice none 0 0) [] := World.ownsRow_nil _ _ _ _
theorem OwnG.since (h : OwnG t k enc w base v L) (s : Since w w') : OwnG t k enc w' base v L := own_since_k (n := L.length) h s
theorem OwnG.alloc (h : OwnG t k enc w base v L) (o : Obj) : OwnG t k enc (w.alloc o) base v L := h.since ((Since.refl w).alloc o)
theorem OwnG.keep (h : OwnG t k enc w base v L) (hk : ∀ b, base ≤ b → b < w.heap.size → w'.heap[b]? = w.heap[b]?) : OwnG t k enc w' base v L := by
  refine ⟨h.1, ?_⟩
  rcases h.2 with h0 | ⟨g, cap, cur, e1, hb, hh, r⟩
  · exact .inl h0
  · refine .inr ⟨g, cap, cur, e1, hb, ?_, r⟩
    have hlt : g < w.heap.size := by
      rcases Nat.lt_or_ge g w.heap.size with hlt | hge
      · exact hlt
      · rw [Array.getElem?_eq_none hge] at hh; cases hh
    rw [hk g hb hlt]; exact hh
theorem OwnG.lt (h : OwnG t k enc w base v L) {g : Nat} (hg : v.ownBlock = some g) : base ≤ g ∧ g < w.heap.size := by
  rcases h.2 with ⟨rfl, _⟩ | ⟨g', c', cur, rfl, hb, hh, _⟩
  · cases hg
  · simp only [Value.ownBlock, Option.some.injEq] at hg
    subst hg
    rcases Nat.lt_or_ge g' w.heap.size with hlt | hge
    · exact ⟨hb, hlt⟩
    · rw [Array.getElem?_eq_none hge] at hh; cases hh
/-- .. kept where another block is grown. -/
theorem OwnG.grown {row : Option Nat} (h : OwnG t k enc w base v L) (hg : w.grownBy w' row) (hb : ∀ q, v.ownBlock = some q → row ≠ some q) : OwnG t k enc w' base v L := by
  refine ⟨h.1, ?_⟩
  rcases h.2 with h0 | ⟨g, cap, cur, rfl, hb', hh, r⟩
  · exact .inl h0
  · refine .inr ⟨g, cap, cur, rfl, hb', ?_, r⟩
    have hlt : g < w.heap.size := by
      rcases Nat.lt_or_ge g w.heap.size with hlt | hge
      · exact hlt
      · rw [Array.getElem?_eq_none hge] at hh; cases hh
    rw [hg.block g hlt (fun e => hb g rfl e.symm)]; exact hh
/-- What an own row reads as. -/
theorem OwnG.rd (hk0 : 0 < k) (hk : ∀ a, (enc a).length = k) (h : OwnG t k enc w base v L) : ∃ A c, v = .slice A L.length c ∧ L.length ≤ c ∧ RdG k enc w w.heap.size A L := by
  unfold OwnG at h
  rw [cellsG_tab hk] at h
  obtain ⟨A, c, rfl, hc, hr, _⟩ := own_k hk0 h
  refine ⟨A, c, rfl, hc, fun hn => ?_⟩
  obtain ⟨b, o, rfl, hb, hcell⟩ := hr (Nat.mul_pos hn hk0)
  refine ⟨b, o, rfl, hb, fun j s hj i hi => ?_⟩
  have hjl : j < L.length := by
    rcases Nat.lt_or_ge j L.length with h | h
    · exact h
    · rw [List.getElem?_eq_none h] at hj; cases hj
  have hlt : j * k + i < L.length * k := by
    have h1 : (j + 1) * k ≤ L.length * k := Nat.mul_le_mul_right _ hjl
    rw [Nat.succ_mul] at h1
    omega
  have h1 : w.cell? ⟨b, o + (j * k + i), none⟩ = some ((cellsG enc L).getD (j * k + i) undef) := hcell (j * k + i) hlt
  rw [List.getD_eq_getElem?_getD, cellsG_get hk L j s hj i hi, ← List.getD_eq_getElem?_getD, ← Nat.add_assoc] at h1
  exact h1
end
section
variable {P : Program}
/-- append of a slice to an own row. -/
theorem wpList_append_g {w : World} {ops : Array Oper} {rest : List Oper} {o : Oper} {a : Act} {Q : Exit → Act → World → Prop} (hgd : o.guard = none) (s x : Operand) (t e : TypeId)
    (ho : o.op = .call { callee := .builtin .append, args := #[s, x], argTypes := #[t, t] }) (hk0 : 0 < k) (hk : ∀ a, (enc a).length = k) (h1 : ∀ a, ∀ u ∈ enc a, u.oneCell' = true) (bytes : Nat)
    (ht : P.underlying t = some (.slice e)) (hinfo : ∃ i z, P.info? e = some i ∧ i.zero = some z ∧ i.size = k ∧ i.bytes = bytes ∧ z.cells.size = k)
    (base : Nat) (v : Value) (L : List α) (hs : a.eval s = v) (hown : OwnG e k enc w base v L) (B : Nat) (A : Option Addr) (c : Nat) (M : List α) (hx : a.eval x = .slice A M.length c) (hr : RdG k enc w B A M)
    (hbytes : (L.length + M.length) * bytes ≤ 140737488355328) (h63 : L.length + M.length ≤ maxLen) (hbase : base ≤ w.heap.size)
    (h : ∀ v' w', OwnG e k enc w' base v' (L ++ M) → w.grownBy w' v.ownBlock → (∀ q, v.ownBlock = some q → base ≤ q ∧ q < w.heap.size) → wpList P ops Q rest (a.put o.dst v') w') :
    wpList P ops Q (o :: rest) a w := by
  obtain ⟨i, z, hi, hz, hsz, hby, hzs⟩ := hinfo
  have hrr : Rd w B A (M.length * k) (fun j => (cellsG enc M).getD j undef) := fun hn => by
    have hM : 0 < M.length := by
      rcases Nat.eq_zero_or_pos M.length with h | h
      · rw [h, Nat.zero_mul] at hn; omega
      · exact h
    obtain ⟨b, o', rfl, hb, hc⟩ := hr hM
    refine ⟨b, o', rfl, hb, fun j hj => ?_⟩
    have hjk : j / k < M.length := by rw [Nat.div_lt_iff_lt_mul hk0]; exact hj
    have hm := Nat.mod_lt j hk0
    have hg := hc (j / k) _ (List.getElem?_eq_getElem hjk) (j % k) hm
    have hg2 := cellsG_get hk M (j / k) _ (List.getElem?_eq_getElem hjk) (j % k) hm
    rw [Nat.div_add_mod' j k] at hg2
    rw [Nat.add_assoc, Nat.div_add_mod' j k] at hg
    show _ = some ((cellsG enc M).getD j undef)
    rw [List.getD_eq_getElem?_getD, hg2, ← List.getD_eq_getElem?_getD]
    exact hg
  have hone : ∀ u ∈ tab (M.length * k) (fun j => (cellsG enc M).getD j undef), u.oneCell' = true := by
    rw [← cellsG_tab hk]
    intro u hu
    unfold cellsG at hu
    rw [List.mem_flatMap] at hu
    obtain ⟨a, _, ha⟩ := hu
    exact h1 a u ha
  have hlt := fun q (hq : v.ownBlock = some q) => hown.lt hq
  refine wpList_append_k w hgd s x t ho base e i z k bytes ht hi hz hsz hby hzs hk0 v L.length (cellsG enc L) hs hown B A M.length c _ hx hrr hone hbytes h63 hbase (fun v' w' h9 hg => h v' w' ?_ hg hlt)
  rw [← cellsG_tab hk, ← cellsG_append] at h9
  unfold OwnG
  rw [List.length_append]
  exact h9
end
/-- A new block that holds one element's cells. -/
theorem rdG_one {w : World} {cs : Array Value} {ty : TypeId} {b : Nat} (hb : b = w.heap.size) (s : α) (h : ∀ i, i < k → cs[i]? = some ((enc s).getD i undef)) : RdG k enc (w.alloc (.cells cs ty)) (w.alloc (.cells cs ty)).heap.size (some ⟨b, 0, none⟩) [s] := fun _ => by
  subst hb
  refine ⟨w.heap.size, 0, rfl, by simp, fun j s' hj i hi => ?_⟩
  cases j with
  | zero =>
    simp only [List.getElem?_cons_zero, Option.some.injEq] at hj
    subst hj
    rw [World.cell?_alloc_new, Nat.zero_mul, Nat.zero_add]
    exact h i hi
  | succ j => simp at hj
/-- .. and of some elements. -/
theorem rdG_lit {w : World} {cs : Array Value} {ty : TypeId} {b : Nat} (hb : b = w.heap.size) (L : List α) (h : ∀ j s, L[j]? = some s → ∀ i, i < k → cs[0 + j * k + i]? = some ((enc s).getD i undef)) : RdG k enc (w.alloc (.cells cs ty)) (w.alloc (.cells cs ty)).heap.size (some ⟨b, 0, none⟩) L := fun _ => by
  subst hb
  refine ⟨w.heap.size, 0, rfl, by simp, fun j s hj i hi => ?_⟩
  rw [World.cell?_alloc_new]
  exact h j s hj i hi
end
theorem Row.grownB {w w' : World} {b n : Nat} {row : Option Nat} {f : Nat → Value} (h : Row w b n f) (hg : w.grownBy w' row) (hb : row ≠ some b) : Row w' b n f := by
  have e := hg.block b h.2.2 (fun x => hb x.symm)
  refine ⟨fun j hj => ?_, fun j => ?_, Nat.lt_of_lt_of_le h.2.2 hg.size⟩
  · rw [← h.1 j hj]; simp only [World.cell?, e]
  · rw [← h.2.1 j]; simp only [World.frozen?, e]
theorem cell_grown {w w' : World} {b o : Nat} {row : Option Nat} {v : Value} (h : w.cell? ⟨b, o, none⟩ = some v) (hb : b < w.heap.size) (hg : w.grownBy w' row) (hr : row ≠ some b) : w'.cell? ⟨b, o, none⟩ = some v := by
  have e := hg.block b hb (fun x => hr x.symm)
  rw [← h]; simp only [World.cell?, e]
end Go.Proofs.Ytpplnapfpoloiaa
