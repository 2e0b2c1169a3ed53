/-
  Layer 16's document: a sorted list with one more: lists; a point stored into an own row.
-/
import Derived.Test.YtckochcocflleaaGreatPxQ
import Derived.Test.YtckochcocflleaaGreatMgH
import Derived.Maps.AppendAt
namespace Go.Proofs.YtckochcocflleaaGreat
open Go.RowKit Go.ChangeShapes Go.WideShapes Go.Deep
set_option linter.unusedVariables false

theorem set_appP {α : Type} (A B : List α) (j : Nat) (v : α) : (A ++ B).set (A.length + j) v = A ++ B.set j v := by
  rw [List.set_append_right _ _ (by omega)]
  congr 2
  omega
theorem cellsP_set : ∀ (L : List Pq) (i : Nat) (x y : Int), i < L.length → ((cellsG ptL L).set (i * 2) (.int .i64 x)).set (i * 2 + 1) (.int .i64 y) = cellsG ptL (L.set i ⟨x, y⟩)
  | [], i, x, y, h => by simp at h
  | k :: L, 0, x, y, h => by simp [cellsG, ptL]
  | k :: L, i + 1, x, y, h => by
    have ih := cellsP_set L i x y (by simpa using h)
    have e0 : cellsG ptL (k :: L) = ptL k ++ cellsG ptL L := by simp [cellsG]
    have e1 : cellsG ptL ((k :: L).set (i + 1) ⟨x, y⟩) = ptL k ++ cellsG ptL (L.set i ⟨x, y⟩) := by simp [cellsG]
    have el : (ptL k).length = 2 := rfl
    rw [e0, e1, ← ih, show (i + 1) * 2 = (ptL k).length + i * 2 by rw [el]; omega, set_appP, Nat.add_assoc, set_appP]
theorem OwnP.put {w : World} {base q n c : Nat} {L : List Pq} (h : OwnG 34 2 ptL w base (.slice (some ⟨q, 0, none⟩) n c) L) (i : Nat) (x y : Int) (hi : i < L.length) :
    OwnG 34 2 ptL ((w.setCell ⟨q, i * 2, none⟩ (.int .i64 x)).setCell ⟨q, i * 2 + 1, none⟩ (.int .i64 y)) base (.slice (some ⟨q, 0, none⟩) n c) (L.set i ⟨x, y⟩) := by
  have hn : n = L.length := by
    rcases h.2 with ⟨h0, _⟩ | ⟨g, cap, cur, h0, _⟩
    · cases h0
    · injection h0 with _ h1 _
  subst hn
  have h3 := ((World.ownsRow.stored (World.ownsRow.stored h (i * 2) (.int .i64 x)).1 (i * 2 + 1) (.int .i64 y)).1)
  rw [cellsP_set L i x y hi] at h3
  unfold OwnG
  rw [List.length_set]
  exact h3
/-- Append of one point to an own row: the row stays in its block, or lies in a new one. -/
theorem wpList_append_one {P : Program} {w : World} {ops : Array Oper} {rest : List Oper} {o : Oper} {a : Act} {Q : Exit → Act → World → Prop} (hgd : o.guard = none) (s x : Operand) (t e : TypeId)
    (ho : o.op = .call { callee := .builtin .append, args := #[s, x], argTypes := #[t, t] }) (bytes : Nat)
    (ht : P.underlying t = some (.slice e)) (hinfo : ∃ i z, P.info? e = some i ∧ i.zero = some z ∧ i.size = 2 ∧ i.bytes = bytes ∧ z.cells.size = 2)
    (base : Nat) (v : Value) (L : List Pq) (hs : a.eval s = v) (hown : OwnG e 2 ptL w base v L) (b c : Nat) (p : Pq) (hx : a.eval x = .slice (some ⟨b, 0, none⟩) 1 c) (h0 : w.cell? ⟨b, 0, none⟩ = some (.int .i64 p.x)) (h1 : w.cell? ⟨b, 1, none⟩ = some (.int .i64 p.y))
    (hbytes : (L.length + 1) * bytes ≤ 140737488355328) (h63 : L.length + 1 ≤ maxLen) (hbase : base ≤ w.heap.size)
    (h : ∀ v' w', OwnG e 2 ptL w' base v' (L ++ [p]) → w.grownBy w' v.ownBlock → (v'.ownBlock = v.ownBlock ∨ v'.ownBlock = some w.heap.size) → wpList P ops Q rest (a.put o.dst v') w') :
    wpList P ops Q (o :: rest) a w := by
  obtain ⟨i, z, hi, hz, hsz, hby, hzs⟩ := hinfo
  refine wpList_append_own_at w hgd s x t ho base e i z 2 bytes ht hi hz hsz hby hzs (by omega) v L.length (cellsG ptL L) hs hown ⟨b, 0, none⟩ 1 c (ptL p) hx rfl (fun j u hj => ?_) (ptL_one p) h63 hbytes hbase (fun v' w' h2 h3 _ h5 => h v' w' ?_ h3 h5)
  · match j, hj with
    | 0, hj => simp only [ptL, List.getElem?_cons_zero, Option.some.injEq] at hj; subst hj; rw [add_plain]; exact h0
    | 1, hj => simp only [ptL, List.getElem?_cons_zero, List.getElem?_cons_succ, Option.some.injEq] at hj; subst hj; rw [add_plain]; exact h1
    | j + 2, hj => simp [ptL] at hj
  · unfold OwnG
    rw [List.length_append, cellsG_append]
    exact h2
/-- All blocks but a row's own are as they were. -/
def KeepV (v : Value) (w w' : World) : Prop := w.heap.size ≤ w'.heap.size ∧ ∀ b, b < w.heap.size → v.ownBlock ≠ some b → w'.heap[b]? = w.heap[b]?
theorem KeepV.refl (v : Value) (w : World) : KeepV v w w := ⟨Nat.le_refl _, fun _ _ _ => rfl⟩
theorem KeepV.since {v : Value} {a b c : World} (h : KeepV v a b) (k : Since b c) : KeepV v a c := ⟨Nat.le_trans h.1 k.below.size, fun x hx hq => (k.below.block x (Nat.lt_of_lt_of_le hx h.1)).trans (h.2 x hx hq)⟩
theorem KeepV.grown {v : Value} {a b c : World} (h : KeepV v a b) (k : b.grownBy c v.ownBlock) : KeepV v a c := ⟨Nat.le_trans h.1 k.size, fun x hx hq => (k.block x (Nat.lt_of_lt_of_le hx h.1) (fun e => hq e.symm)).trans (h.2 x hx hq)⟩
theorem KeepV.set {v : Value} {a b : World} (h : KeepV v a b) {q : Nat} (hq : v.ownBlock = some q ∨ a.heap.size ≤ q) (o : Nat) (u : Value) : KeepV v a (b.setCell ⟨q, o, none⟩ u) := ⟨by simpa [World.setCell] using h.1, fun x hx hne => by
  rw [← h.2 x hx hne]
  have : ¬ q = x := fun e => by
    subst e
    rcases hq with hq | hq
    · exact hne hq
    · omega
  simp [World.setCell, Array.getElem?_modify, this]⟩
section
variable {L : List Pq} {p : Pq} {k : Nat}
def shL (L : List Pq) (k : Nat) (z : Pq) : List Pq := L.take k ++ z :: L.drop k
theorem sh_len (h : k ≤ L.length) (z : Pq) : (shL L k z).length = L.length + 1 := by
  unfold shL
  rw [List.length_append, List.length_cons, List.length_take, List.length_drop]
  omega
theorem sh_start (z : Pq) : shL L L.length z = L ++ [z] := by unfold shL; simp
theorem sh_set (h : k ≤ L.length) (z a : Pq) : (shL L k z).set k a = shL L k a := by
  unfold shL
  have e : (L.take k).length = k := by rw [List.length_take]; omega
  have := set_appP (L.take k) (z :: L.drop k) 0 a
  rw [e, Nat.add_zero] at this
  rw [this]; rfl
theorem sh_get (h0 : 0 < k) (h : k ≤ L.length) {a : Pq} (ha : L[k - 1]? = some a) (z : Pq) : (shL L k z)[k - 1]? = some a := by
  unfold shL
  rw [List.getElem?_append_left (by rw [List.length_take]; omega), List.getElem?_take, if_pos (by omega)]
  exact ha
theorem sh_step (h0 : 0 < k) (h : k ≤ L.length) {a : Pq} (ha : L[k - 1]? = some a) : shL L k a = shL L (k - 1) a := by
  unfold shL
  obtain ⟨hk, e⟩ := List.getElem?_eq_some_iff.1 ha
  obtain ⟨j, rfl⟩ : ∃ j, k = j + 1 := ⟨k - 1, by omega⟩
  simp only [Nat.add_sub_cancel] at ha hk e ⊢
  rw [List.take_add_one, ha, List.append_assoc, List.drop_eq_getElem_cons hk, e]
  rfl
theorem ins_mem (q : Pq) : q ∈ shL L k p ↔ q ∈ L ∨ q = p := by
  unfold shL
  have e : q ∈ L ↔ q ∈ L.take k ∨ q ∈ L.drop k := by
    conv => lhs; rw [← List.take_append_drop k L]
    exact List.mem_append
  rw [List.mem_append, List.mem_cons, e]
  constructor
  · rintro (h | h | h)
    · exact .inl (.inl h)
    · exact .inr h
    · exact .inl (.inr h)
  · rintro ((h | h) | h)
    · exact .inl h
    · exact .inr (.inr h)
    · exact .inr (.inl h)
theorem ins_ok (hs : L.Pairwise LtP) (h1 : ∀ (j : Nat) (q : Pq), j < k → L[j]? = some q → LtP q p) (h2 : ∀ q, L[k]? = some q → LtP p q) : (shL L k p).Pairwise LtP := by
  unfold shL
  rw [← List.take_append_drop k L, List.pairwise_append] at hs
  obtain ⟨a1, a2, a3⟩ := hs
  have b1 : ∀ q ∈ L.take k, LtP q p := fun q hq => by
    obtain ⟨j, hj⟩ := List.mem_iff_getElem?.1 hq
    rw [List.getElem?_take] at hj
    split at hj
    · exact h1 j q (by assumption) hj
    · cases hj
  have b2 : ∀ q ∈ L.drop k, LtP p q := fun q hq => by
    cases hd : L.drop k with
    | nil => rw [hd] at hq; cases hq
    | cons a r =>
      have e : L[k]? = some a := by
        have := List.getElem?_drop (xs := L) (i := k) (j := 0)
        rw [hd] at this
        simpa using this.symm
      have ha := h2 a e
      rw [hd] at hq a2
      rcases List.mem_cons.1 hq with rfl | hq
      · exact ha
      · exact ltP_tr ha ((List.pairwise_cons.1 a2).1 q hq)
  rw [List.pairwise_append]
  refine ⟨a1, List.pairwise_cons.2 ⟨b2, a2⟩, fun q hq r hr => ?_⟩
  rcases List.mem_cons.1 hr with rfl | hr
  · exact b1 q hq
  · exact a3 q hq r hr
end
def WithPost (w0 : World) (base : Nat) (v : Value) (L : List Pq) (p : Pq) (w : World) (e : Ending) (w' : World) : Prop :=
  ∃ v' L', e = .returned v' ∧ OwnG 34 2 ptL w' base v' L' ∧ L'.Pairwise LtP ∧ (∀ q, q ∈ L' ↔ q ∈ L ∨ q = p) ∧ L'.length ≤ L.length + 1 ∧ KeepV v w w' ∧ Since w0 w'
end Go.Proofs.YtckochcocflleaaGreat
