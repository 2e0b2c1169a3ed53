/-
  Rows that a call has made and fills in place: 'make', and stores into them.
-/
import Derived.Test.YtpplnapfpoloiaaKitO
import Derived.Test.YtpplnapfpoloiaaKitBut
namespace Go.Proofs.Ytpplnapfpoloiaa
open Go.RowKit Go.ChangeShapes Go.WideShapes Go.Deep
set_option linter.unusedVariables false

theorem OwnG.but {α : Type} {enc : α → List Value} {t : TypeId} {k base q : Nat} {w w' : World} {v : Value} {L : List α} (h : OwnG t k enc w base v L) (hk : KeepBut q w w') (hq : v.ownBlock ≠ some q) : OwnG t k enc w' base v L := by
  refine ⟨h.1, ?_⟩
  rcases h.2 with h0 | ⟨g, cap, cur, rfl, hb, hh, r⟩
  · exact .inl h0
  · refine .inr ⟨g, cap, cur, rfl, hb, ?_, r⟩
    have hlt : g < w.heap.size := by
      rcases Nat.lt_or_ge g w.heap.size with hlt | hge
      · exact hlt
      · rw [Array.getElem?_eq_none hge] at hh; cases hh
    rw [hk.2 g hlt (fun e => hq (by rw [← e]; rfl))]; exact hh
section
variable {α : Type} {k : Nat} {enc : α → List Value} {P : Program}
theorem made_cells (hk0 : 0 < k) (hk : ∀ a, (enc a).length = k) (z0 : α) (z : Array Value) (hz : z.toList = enc z0) (n : Nat) : (madeCells z (n * k)).toList = cellsG enc (List.replicate n z0) := by
  have hzs : z.size = k := by rw [← Array.length_toList, hz, hk]
  apply List.ext_getElem?
  intro j
  by_cases hj : j < n * k
  · have hjk : j / k < n := by rw [Nat.div_lt_iff_lt_mul hk0]; exact hj
    have hm := Nat.mod_lt j hk0
    have h1 := cellsG_get hk (List.replicate n z0) (j / k) z0 (by simp [hjk]) (j % k) hm
    rw [Nat.div_add_mod' j k] at h1
    rw [h1, ← hz]
    have h2 : j % k < z.size := by omega
    simp [madeCells, hj, hzs]
    rw [getElem!_pos z _ h2, getElem?_pos z _ h2]
  · rw [List.getElem?_eq_none (by simp [madeCells]; omega), List.getElem?_eq_none (by rw [cellsG_len hk]; simp; omega)]
/-- make([]T, n): an own row of zero values. -/
theorem wpList_make_g {w : World} {ops : Array Oper} {rest : List Oper} {o : Oper} {a : Act} {Q : Exit → Act → World → Prop}
    (hg : o.guard = none) (l c : Operand) (t e : TypeId) (hop : o.op = Op.makeSlice t l c) (hk0 : 0 < k) (hk : ∀ a, (enc a).length = k) (bytes : Nat) (z0 : α)
    (ht : P.underlying t = some (.slice e)) (hinfo : ∃ i z, P.info? e = some i ∧ i.zero = some z ∧ i.size = k ∧ i.bytes = bytes ∧ z.cells.toList = enc z0)
    (n : Nat) (hl : a.eval l = .int .i64 (n : Int)) (hc : a.eval c = .int .i64 (n : Int)) (b2 : bytes * n ≤ 281474976710656) (b3 : n ≤ maxLen)
    (base : Nat) (hbase : base ≤ w.heap.size)
    (hK : ∀ w', OwnG e k enc w' base (.slice (some ⟨w.heap.size, 0, none⟩) n n) (List.replicate n z0) → w.grownBy w' none → wpList P ops Q rest (a.put o.dst (.slice (some ⟨w.heap.size, 0, none⟩) n n)) w') :
    wpList P ops Q (o :: rest) a w := by
  obtain ⟨i, z, hi, hz, hsz, hby, hzc⟩ := hinfo
  refine wpList_make_full w hg l c t hop base e i z k ht hi hz hsz .i64 .i64 (n : Int) (n : Int) n hl hc rfl rfl (by rw [hby]; exact b2) b3 hbase (fun w' hown hgr => hK w' ?_ hgr)
  rw [made_cells hk0 hk z0 z.cells hzc] at hown
  unfold OwnG
  rw [List.length_replicate]
  exact hown
end
theorem infoKn2 : ∃ i z, Try.prog.info? 76 = some i ∧ i.zero = some z ∧ i.size = 3 ∧ i.bytes = 24 ∧ z.cells.toList = knL ⟨0, 0, false⟩ := by
  obtain ⟨i0, hi, hz0, hz1, hz2⟩ := info_parts infoKn0
  exact ⟨i0, _, hi, hz0, hz1, hz2, rfl⟩
theorem infoCt2 : ∃ i z, Try.prog.info? 71 = some i ∧ i.zero = some z ∧ i.size = 1 ∧ i.bytes = 24 ∧ z.cells.toList = hdL ⟨none, 0, 0⟩ := by
  obtain ⟨i0, hi, hz0, hz1, hz2⟩ := info_parts infoCt0
  exact ⟨i0, _, hi, hz0, hz1, hz2, rfl⟩
theorem set_app {α : Type} (A B : List α) (j : Nat) (v : α) : (A ++ B).set (A.length + j) v = A ++ B.set j v := by
  rw [List.set_append_right _ _ (by omega)]
  congr 2
  omega
theorem cellsK_set : ∀ (L : List Kt) (i : Nat) (x y : Int) (o : Bool), i < L.length → (((cellsG knL L).set (i * 3) (.int .i64 x)).set (i * 3 + 1) (.int .i64 y)).set (i * 3 + 2) (.bool o) = cellsG knL (L.set i ⟨x, y, o⟩)
  | [], i, x, y, o, h => by simp at h
  | k :: L, 0, x, y, o, h => by simp [cellsG, knL]
  | k :: L, i + 1, x, y, o, h => by
    have ih := cellsK_set L i x y o (by simpa using h)
    have e0 : cellsG knL (k :: L) = knL k ++ cellsG knL L := by simp [cellsG]
    have e1 : cellsG knL ((k :: L).set (i + 1) ⟨x, y, o⟩) = knL k ++ cellsG knL (L.set i ⟨x, y, o⟩) := by simp [cellsG]
    have el : (knL k).length = 3 := rfl
    rw [e0, e1, ← ih, show (i + 1) * 3 = (knL k).length + i * 3 by rw [el]; omega, set_app, Nat.add_assoc, set_app, Nat.add_assoc, set_app]
theorem OwnK.put {w : World} {base q n c : Nat} {L : List Kt} (h : OwnK w base (.slice (some ⟨q, 0, none⟩) n c) L) (i : Nat) (x y : Int) (o : Bool) (hi : i < L.length) :
    OwnK (((w.setCell ⟨q, i * 3, none⟩ (.int .i64 x)).setCell ⟨q, i * 3 + 1, none⟩ (.int .i64 y)).setCell ⟨q, i * 3 + 2, none⟩ (.bool o)) base (.slice (some ⟨q, 0, none⟩) n c) (L.set i ⟨x, y, o⟩) := by
  have hn : n = L.length := by
    rcases h.2 with ⟨h0, _⟩ | ⟨g, cap, cur, h0, _⟩
    · cases h0
    · injection h0 with _ h1 _
  subst hn
  have h3 := ((World.ownsRow.stored (World.ownsRow.stored (World.ownsRow.stored h (i * 3) (.int .i64 x)).1 (i * 3 + 1) (.int .i64 y)).1 (i * 3 + 2) (.bool o)).1)
  rw [cellsK_set L i x y o hi] at h3
  unfold OwnK OwnG
  rw [List.length_set]
  exact h3
theorem OwnH.put {w : World} {base q n c : Nat} {hs : List Hd} (h : OwnG 71 1 hdL w base (.slice (some ⟨q, 0, none⟩) n c) hs) (i : Nat) (A : Option Addr) (m d : Nat) (hi : i < hs.length) :
    OwnG 71 1 hdL (w.setCell ⟨q, i, none⟩ (.slice A m d)) base (.slice (some ⟨q, 0, none⟩) n c) (hs.set i ⟨A, m, d⟩) := by
  have hn : n = hs.length := by
    rcases h.2 with ⟨h0, _⟩ | ⟨g, cap, cur, h0, _⟩
    · cases h0
    · injection h0 with _ h1 _
  subst hn
  have h3 := (World.ownsRow.stored h i (.slice A m d)).1
  have e : (cellsG hdL hs).set i (.slice A m d) = cellsG hdL (hs.set i ⟨A, m, d⟩) := by
    clear h h3
    induction hs generalizing i with
    | nil => simp at hi
    | cons a r ih =>
      cases i with
      | zero => simp [cellsG, hdL]
      | succ i =>
        have := ih i (by simpa using hi)
        simp only [cellsG, List.flatMap_cons, hdL, List.cons_append, List.nil_append, List.set_cons_succ] at this ⊢
        rw [this]
  rw [e] at h3
  unfold OwnG
  rw [List.length_set]
  exact h3
end Go.Proofs.Ytpplnapfpoloiaa
