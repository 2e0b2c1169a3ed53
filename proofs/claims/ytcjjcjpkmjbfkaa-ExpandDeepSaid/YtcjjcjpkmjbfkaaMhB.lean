/-
  Texts of this seat, put together: each with its own head.
-/
import Derived.Test.YtcjjcjpkmjbfkaaMhA
import Derived.Deep.Matrix
import Derived.Deep.SlicePairs
import Derived.Deep.MidRow
import Derived.Deep.QuietTactic
import Derived.BigQuiet

/-
  append to a row of the call's own that may be nil, of a source that may be nil; a slice of slices of whole numbers that came in.
-/
namespace Go.Proofs.Ytcjjcjpkmjbfkaa
open Go.RowKit Go.ChangeShapes Go.WideShapes Go.Deep
section
variable {P : Program} (w : World)
theorem run_append_any (base : Nat) (t ty e : TypeId) (i : TypeInfo) (z : Value) (bytes : Nat) (ht : P.underlying t = some (.slice e)) (hi : P.info? e = some i) (hz : i.zero = some z)
    (hsize : i.size = 1) (hby : i.bytes = bytes) (hzs : z.cells.size = 1) (v : Value) (n : Nat) (xs : List Value) (hown : w.ownsRow base e 1 v n xs)
    (B : Nat) (A : Option Addr) (m c : Nat) (V : Nat → Value) (hr : Rd w B A m V) (h1 : ∀ u ∈ tab m V, u.oneCell' = true) (hbytes : (n + m) * bytes ≤ 140737488355328) (h63 : n + m ≤ maxLen) (hbase : base ≤ w.heap.size) :
    ∃ v' w', (Builtin.append_ #[t, t] ty #[v, .slice A m c]).run P w = .ok v' w' ∧ w'.ownsRow base e 1 v' (n + m) (xs ++ tab m V) ∧ w.grownBy w' v.ownBlock := by
  rcases A with _ | ad
  · have hm : m = 0 := by
      rcases Nat.eq_zero_or_pos m with h0 | h0
      · exact h0
      · obtain ⟨b, o, h, _⟩ := hr h0; cases h
    subst hm
    refine ⟨v, w, ?_, by simpa [tab_zero] using hown, World.grownBy.refl w _⟩
    rcases hown.2 with ⟨rfl, hx⟩ | ⟨g, cap, cur, rfl, _, _, hnc, _⟩
    · have hn : n = 0 := by have h1 := hown.1; rw [hx] at h1; simp at h1; omega
      subst hn
      simp [Builtin.append_, run_underlying ht, sizeOf, typeInfo, hi, Builtin.lenOf, Builtin.firstCells]
    · simp [Builtin.append_, run_underlying ht, sizeOf, typeInfo, hi, Builtin.lenOf, Builtin.firstCells, hnc, storeCells]
  · have hc : ∀ j u, (tab m V)[j]? = some u → w.cell? (ad.add j) = some u := by
      intro j u hu
      rw [tab_get] at hu
      split at hu
      · rename_i hj
        obtain ⟨b, o, h, _, hc⟩ := hr (by omega)
        injection h with h; subst h; injection hu with hu; subst hu
        rw [← hc j hj]
        unfold Addr.add; split <;> simp_all
      · cases hu
    obtain ⟨v', w', hrun, h2, h3, _⟩ := run_append_own (P := P) w base t ty e i z 1 bytes ht hi hz hsize hby hzs (by omega) v n xs hown ad m c (tab m V) (by rw [tab_len]; omega) hc h1 h63 hbytes hbase
    exact ⟨v', w', hrun, h2, h3⟩
theorem wpList_append_any {ops : Array Oper} {rest : List Oper} {o : Oper} {a : Act} {Q : Exit → Act → World → Prop} (hgd : o.guard = none) (s x : Operand) (t : TypeId)
    (ho : o.op = .call { callee := .builtin .append, args := #[s, x], argTypes := #[t, t] })
    (base : Nat) (e : TypeId) (i : TypeInfo) (z : Value) (bytes : Nat) (ht : P.underlying t = some (.slice e)) (hi : P.info? e = some i) (hz : i.zero = some z)
    (hsize : i.size = 1) (hby : i.bytes = bytes) (hzs : z.cells.size = 1) (v : Value) (n : Nat) (xs : List Value) (hs : a.eval s = v) (hown : w.ownsRow base e 1 v n xs)
    (B : Nat) (A : Option Addr) (m c : Nat) (V : Nat → Value) (hx : a.eval x = .slice A m c) (hr : Rd w B A m V) (h1 : ∀ u ∈ tab m V, u.oneCell' = true) (hbytes : (n + m) * bytes ≤ 140737488355328) (h63 : n + m ≤ maxLen) (hbase : base ≤ w.heap.size)
    (h : ∀ v' w', w'.ownsRow base e 1 v' (n + m) (xs ++ tab m V) → w.grownBy w' v.ownBlock → wpList P ops Q rest (a.put o.dst v') w') :
    wpList P ops Q (o :: rest) a w := by
  refine wpList_plain hgd fun K hK => ?_
  obtain ⟨v', w', hr, h2, h3⟩ := run_append_any (P := P) w base t o.type e i z bytes ht hi hz hsize hby hzs v n xs hown B A m c V hr h1 hbytes h63 hbase
  unfold Oper.wp execOp
  simp only [ho, resolve, invoke, builtin, Sem.run_bind, Sem.run_pure, Result.andThen_ok, List.map_toArray, List.map_cons, List.map_nil, hs, hx, hr]
  exact hK _ _ (h v' w' h2 h3)
end
/-- What an own row, nil let in, reads as. -/
theorem own_any {w : World} {base : Nat} {e : TypeId} {v : Value} {n : Nat} {V : Nat → Value} (h : w.ownsRow base e 1 v n (tab n V)) : ∃ A c, v = .slice A n c ∧ n ≤ c ∧ Rd w w.heap.size A n V ∧ (∀ k, v.ownBlock = some k → base ≤ k) := by
  rcases h.2 with ⟨rfl, hx⟩ | ⟨g, cap, cur, rfl, hb, hh, hnc, _⟩
  · have hn : n = 0 := by have h1 := h.1; rw [hx] at h1; simp at h1; omega
    subst hn
    exact ⟨none, 0, rfl, Nat.le_refl _, Rd.zero, fun k hk => by cases hk⟩
  · exact ⟨_, cap, rfl, hnc, Rd.of_row (row_of_own h), fun k hk => by simp [Value.ownBlock] at hk; omega⟩

section
variable {H : Type} {enc : TypeId × Value → H} {P : Program} {W : World}
theorem rd_of_places {a : Addr} {n len : Nat} {V : Nat → Value} {ps : List MemPlace} (hps : MemPlace.row a len = ps) (hlt : ∀ x ∈ ps, x.block < W.heap.size) (hn : n ≤ len) (hc : ∀ i, i < n → W.cell? (a.add i) = some (V i)) : Rd W W.heap.size (some a) n V := fun h0 => by
  have hspot : a.spot = none := by
    have h0 := hc 0 h0
    cases hsp : a.spot with
    | none => rfl
    | some s =>
      have e : (a.add 0).spot = some s := by unfold Addr.add; split <;> simp_all
      simp only [World.cell?] at h0
      split at h0
      · simp [e] at h0
      · cases h0
  obtain ⟨b, o, s⟩ := a
  simp only at hspot
  subst hspot
  subst hps
  refine ⟨b, o, rfl, hlt (.cell b (o + 0)) (MemPlace.mem_row.2 ⟨0, by omega, rfl⟩), fun j hj => ?_⟩
  rw [← add_plain]
  exact hc j hj
/-- A slice of slices of whole numbers that came in. -/
theorem open_rows {t e q : TypeId} {k : IntKind} {r : Reach} {b0 : Nat} {v : Value} {d : DataW H} {ps : List MemPlace} (ht : P.underlying t = some (.slice e)) (he : P.underlying e = some (.slice q)) (hq : P.underlying q = some (.int k)) (ce : P.cellsOf e = 1) (cq : P.cellsOf q = 1)
    (hval : Value.okWide P W r b0 t v) (h : DataW.Trod enc P W 0 (fun _ => true) true t v d ps) (hlt : ∀ x ∈ ps, x.block < W.heap.size) :
    ∃ (A : Option Addr) (n c : Nat) (AA : Nat → Option Addr) (LL CC : Nat → Nat) (Z : Nat → Nat → Int), v = .slice A n c ∧ n ≤ c ∧ c ≤ maxLen ∧ Rd W W.heap.size A n (fun j => .slice (AA j) (LL j) (CC j)) ∧
      ∀ j, j < n → LL j ≤ CC j ∧ CC j ≤ maxLen ∧ Rd W W.heap.size (AA j) (LL j) (IntRow k (Z j)) ∧ ∀ i, i < LL j → (Lit.int k (Z j i)).wf = true := by
  obtain ⟨A, n, c, rfl⟩ := okWide_slice ht hval
  obtain ⟨fuel, hf⟩ := h
  rcases open_int_rows ht he hq ce cq hf with ⟨hcs, hx⟩ | ⟨a, len, cap, AA, LL, CC, Z, hcs, _, hl, hm, hx, hall⟩
  · simp [Value.cells] at hcs
    obtain ⟨rfl, rfl, rfl⟩ := hcs
    exact ⟨none, 0, 0, fun _ => none, fun _ => 0, fun _ => 0, fun _ _ => 0, rfl, Nat.le_refl _, Nat.zero_le _, Rd.zero, fun j hj => absurd hj (by omega)⟩
  · simp [Value.cells] at hcs
    obtain ⟨rfl, rfl, rfl⟩ := hcs
    simp only [Prod.mk.injEq] at hx
    obtain ⟨rfl, rfl⟩ := hx
    refine ⟨some a, n, c, AA, LL, CC, fun j i => (Z j).getD i 0, rfl, hl, hm, rd_of_places rfl (fun x hx => hlt x (List.mem_append_left _ hx)) hl (fun i hi => (hall i (by omega)).1), fun j hj => ?_⟩
    obtain ⟨_, h2, h3, h4, h5, h6, h7⟩ := hall j (by omega)
    refine ⟨h2, h3, ?_, fun i hi => ?_⟩
    · cases hA : AA j with
      | none =>
        have := h6 hA
        have hL0 : LL j = 0 := by omega
        rw [hL0]
        exact Rd.zero
      | some a' =>
        refine rd_of_places (len := (Z j).length) rfl (fun x hx => hlt x (List.mem_append_right _ (List.mem_flatMap.2 ⟨j, by simp; omega, by unfold intRowPlaces; rw [hA]; exact hx⟩))) (by omega) (fun i hi => ?_)
        exact (h7 a' hA).2 i (by omega)
    · have hi' : i < (Z j).length := by omega
      have e : (Z j).getD i 0 = (Z j)[i] := by simp [List.getD, hi']
      show (Lit.int k ((Z j).getD i 0)).wf = true
      rw [e]
      exact h5 _ (List.getElem_mem hi')
end
end Go.Proofs.Ytcjjcjpkmjbfkaa

/-
  Slices of values of k cells each: what a row reads as, append to an own row, what came in, opened.
-/
namespace Go.Proofs.Ytcjjcjpkmjbfkaa
open Go.RowKit Go.ChangeShapes Go.WideShapes Go.Deep
set_option linter.unusedVariables false
section
variable {P : Program} (w : World)
theorem run_append_k (base : Nat) (t ty e : TypeId) (i : TypeInfo) (z : Value) (k bytes : Nat) (ht : P.underlying t = some (.slice e)) (hi : P.info? e = some i) (hz : i.zero = some z)
    (hsize : i.size = k) (hby : i.bytes = bytes) (hzs : z.cells.size = k) (hk : 0 < k) (v : Value) (n : Nat) (xs : List Value) (hown : w.ownsRow base e k v n xs)
    (B : Nat) (A : Option Addr) (m c : Nat) (V : Nat → Value) (hr : Rd w B A (m * k) V) (h1 : ∀ u ∈ tab (m * k) V, u.oneCell' = true) (hbytes : (n + m) * bytes ≤ 140737488355328) (h63 : n + m ≤ maxLen) (hbase : base ≤ w.heap.size) :
    ∃ v' w', (Builtin.append_ #[t, t] ty #[v, .slice A m c]).run P w = .ok v' w' ∧ w'.ownsRow base e k v' (n + m) (xs ++ tab (m * k) V) ∧ w.grownBy w' v.ownBlock := by
  rcases A with _ | ad
  · have hm : m = 0 := by
      rcases Nat.eq_zero_or_pos m with h0 | h0
      · exact h0
      · obtain ⟨b, o, h, _⟩ := hr (Nat.mul_pos h0 hk); cases h
    subst hm
    refine ⟨v, w, ?_, by simpa [tab_zero] using hown, World.grownBy.refl w _⟩
    rcases hown.2 with ⟨rfl, hn⟩ | ⟨g, cap, cur, rfl, _, _, hnc, _⟩
    · subst hn
      simp [Builtin.append_, run_underlying ht, sizeOf, typeInfo, hi, Builtin.lenOf, Builtin.firstCells]
    · simp [Builtin.append_, run_underlying ht, sizeOf, typeInfo, hi, Builtin.lenOf, Builtin.firstCells, hnc, storeCells]
  · have hc : ∀ j u, (tab (m * k) V)[j]? = some u → w.cell? (ad.add j) = some u := by
      intro j u hu
      rw [tab_get] at hu
      split at hu
      · rename_i hj
        obtain ⟨b, o, h, _, hc⟩ := hr (by omega)
        injection h with h; subst h; injection hu with hu; subst hu
        rw [add_plain]
        exact hc j hj
      · cases hu
    obtain ⟨v', w', hrun, h2, h3, _⟩ := run_append_own (P := P) w base t ty e i z k bytes ht hi hz hsize hby hzs hk v n xs hown ad m c (tab (m * k) V) (by rw [tab_len]) hc h1 h63 hbytes hbase
    exact ⟨v', w', hrun, h2, h3⟩
theorem wpList_append_k {ops : Array Oper} {rest : List Oper} {o : Oper} {a : Act} {Q : Exit → Act → World → Prop} (hgd : o.guard = none) (s x : Operand) (t : TypeId)
    (ho : o.op = .call { callee := .builtin .append, args := #[s, x], argTypes := #[t, t] })
    (base : Nat) (e : TypeId) (i : TypeInfo) (z : Value) (k bytes : Nat) (ht : P.underlying t = some (.slice e)) (hi : P.info? e = some i) (hz : i.zero = some z)
    (hsize : i.size = k) (hby : i.bytes = bytes) (hzs : z.cells.size = k) (hk : 0 < k) (v : Value) (n : Nat) (xs : List Value) (hs : a.eval s = v) (hown : w.ownsRow base e k v n xs)
    (B : Nat) (A : Option Addr) (m c : Nat) (V : Nat → Value) (hx : a.eval x = .slice A m c) (hr : Rd w B A (m * k) V) (h1 : ∀ u ∈ tab (m * k) V, u.oneCell' = true) (hbytes : (n + m) * bytes ≤ 140737488355328) (h63 : n + m ≤ maxLen) (hbase : base ≤ w.heap.size)
    (h : ∀ v' w', w'.ownsRow base e k v' (n + m) (xs ++ tab (m * k) V) → w.grownBy w' v.ownBlock → wpList P ops Q rest (a.put o.dst v') w') :
    wpList P ops Q (o :: rest) a w := by
  refine wpList_plain hgd fun K hK => ?_
  obtain ⟨v', w', hr, h2, h3⟩ := run_append_k (P := P) w base t o.type e i z k bytes ht hi hz hsize hby hzs hk v n xs hown B A m c V hr h1 hbytes h63 hbase
  unfold Oper.wp execOp
  simp only [ho, resolve, invoke, builtin, Sem.run_bind, Sem.run_pure, Result.andThen_ok, List.map_toArray, List.map_cons, List.map_nil, hs, hx, hr]
  exact hK _ _ (h v' w' h2 h3)
end
/-- What an own row of such values, nil let in, reads as. -/
theorem own_k {w : World} {base : Nat} {e : TypeId} {v : Value} {n k : Nat} {V : Nat → Value} (hk : 0 < k) (h : w.ownsRow base e k v n (tab (n * k) V)) : ∃ A c, v = .slice A n c ∧ n ≤ c ∧ Rd w w.heap.size A (n * k) V ∧ (∀ q, v.ownBlock = some q → base ≤ q) := by
  have h' := h
  rcases h.2 with ⟨rfl, hn⟩ | ⟨g, cap, cur, rfl, hb, hh, hnc, _⟩
  · subst hn
    exact ⟨none, 0, rfl, Nat.le_refl _, by rw [Nat.zero_mul]; exact Rd.zero, fun q hq => by cases hq⟩
  · refine ⟨_, cap, rfl, hnc, fun hm => ⟨g, 0, rfl, ?_, fun j hj => ?_⟩, fun q hq => by simp [Value.ownBlock] at hq; omega⟩
    · rcases Nat.lt_or_ge g w.heap.size with hlt | hge
      · exact hlt
      · rw [Array.getElem?_eq_none hge] at hh; cases hh
    · have hcell := h'.cells (g := g) rfl
      rw [← add_plain]
      exact hcell j _ (by rw [tab_get, if_pos hj])
/-- An own row's cells. -/
theorem row_of_own_k {w : World} {base n k : Nat} {e : TypeId} {g cap : Nat} {V : Nat → Value} (hk : 0 < k) (h : w.ownsRow base e k (.slice (some ⟨g, 0, none⟩) n cap) n (tab (n * k) V)) : Row w g (n * k) V := by
  refine ⟨fun j hj => ?_, fun j => h.frozenAt j, ?_⟩
  · have hcell := h.cells (g := g) rfl j _ (by rw [tab_get, if_pos hj])
    rw [add_plain, Nat.zero_add] at hcell
    exact hcell
  · rcases h.2 with ⟨e1, _⟩ | ⟨g', c', cur, e1, _, hh, _⟩
    · cases e1
    · injection e1 with e1 _ _
      injection e1 with e1
      injection e1 with e1
      subst e1
      rcases Nat.lt_or_ge g w.heap.size with hlt | hge
      · exact hlt
      · rw [Array.getElem?_eq_none hge] at hh; cases hh
theorem own_since_k {w w' : World} {base n k : Nat} {e : TypeId} {v : Value} {xs : List Value} (h : w.ownsRow base e k v n xs) (s : Since w w') : w'.ownsRow base e k v n xs := by
  refine ⟨h.1, ?_⟩
  rcases h.2 with h0 | ⟨g, cap, cur, e1, hb, hh, r⟩
  · exact .inl h0
  · refine .inr ⟨g, cap, cur, e1, hb, ?_, r⟩
    have hlt : g < w.heap.size := by
      rcases Nat.lt_or_ge g w.heap.size with hlt | hge
      · exact hlt
      · rw [Array.getElem?_eq_none hge] at hh; cases hh
    rw [s.below.block g hlt]; exact hh
theorem tab_more (n m : Nat) (V : Nat → Value) : tab n V ++ tab m (fun t => V (n + t)) = tab (n + m) V := by
  rw [tab_append]
  refine tab_congr fun j hj => ?_
  by_cases h : j < n
  · rw [if_pos h]
  · rw [if_neg h, show n + (j - n) = j by omega]
theorem list_made (z : Array Value) (n : Nat) (V : Nat → Value) (hV : ∀ j, z[j % z.size]! = V j) : (madeCells z n).toList = tab n V := by
  apply List.ext_getElem?
  intro j
  rw [tab_get]
  by_cases hj : j < n
  · rw [if_pos hj]
    simp [madeCells, hj, hV]
  · rw [if_neg hj]
    simp [madeCells, hj]
section
variable {P : Program} (w : World)
/-- make([]T, n), T of k cells: an own row of zero values. -/
theorem wpList_make_k {ops : Array Oper} {rest : List Oper} {o : Oper} {a : Act} {Q : Exit → Act → World → Prop}
    (hg : o.guard = none) (l c : Operand) (t : TypeId) (hop : o.op = Op.makeSlice t l c)
    (e : TypeId) (i : TypeInfo) (z : Value) (k bytes : Nat) (h1 : P.underlying t = some (.slice e)) (h2 : P.info? e = some i) (h3 : i.zero = some z) (h4 : i.size = k) (h5 : i.bytes = bytes) (V : Nat → Value) (hV : ∀ j, z.cells[j % z.cells.size]! = V j)
    (kl kc : IntKind) (n : Nat) (hl : a.eval l = .int kl (n : Int)) (hc : a.eval c = .int kc (n : Int)) (b2 : bytes * n ≤ 281474976710656) (b3 : n ≤ maxLen)
    (hK : ∀ w', w'.ownsRow w.heap.size e k (.slice (some ⟨w.heap.size, 0, none⟩) n n) n (tab (n * k) V) → Since w w' → wpList P ops Q rest (a.put o.dst (.slice (some ⟨w.heap.size, 0, none⟩) n n)) w') :
    wpList P ops Q (o :: rest) a w := by
  refine wpList_make_full w hg l c t hop w.heap.size e i z k h1 h2 h3 h4 kl kc (n : Int) (n : Int) n hl hc rfl rfl (by rw [h5]; exact b2) b3 (Nat.le_refl _) (fun w' hown hgr => hK w' ?_ (since_grown (Since.refl w) hgr (fun k hk => by cases hk)))
  rw [list_made _ _ V hV] at hown
  exact hown
end
theorem rd_add_lit (a : Addr) (i j : Nat) : (a.add i).add j = a.add (i + j) := add_add a i j
/-- A new block that holds a value's cells, as a slice of one. -/
theorem rd_lit {w : World} {cs : Array Value} {t : TypeId} {b n : Nat} {V : Nat → Value} (hb : b = w.heap.size) (h : ∀ j, j < n → cs[j]? = some (V j)) : Rd (w.alloc (.cells cs t)) (w.alloc (.cells cs t)).heap.size (some ⟨b, 0, none⟩) n V := fun _ => by
  subst hb
  exact ⟨w.heap.size, 0, rfl, by simp, fun j hj => by rw [World.cell?_alloc_new, Nat.zero_add]; exact h j hj⟩
section
variable {H : Type} {enc : TypeId × Value → H} {P : Program} {W : World}
/-- A slice of values of k cells each that came in. -/
theorem open_flat {t e : TypeId} {k : Nat} {r : Reach} {b0 : Nat} {v : Value} {d : DataW H} {ps : List MemPlace} (ht : P.underlying t = some (.slice e)) (ce : P.cellsOf e = k) (hk : 0 < k)
    (hval : Value.okWide P W r b0 t v) (h : DataW.Trod enc P W 0 (fun _ => true) true t v d ps) (hlt : ∀ x ∈ ps, x.block < W.heap.size) :
    ∃ (A : Option Addr) (n c : Nat) (V : Nat → Value), v = .slice A n c ∧ n ≤ c ∧ c ≤ maxLen ∧ Rd W W.heap.size A (n * k) V ∧ (∀ i, i < n → ∃ m x, DataW.trod enc P W 0 (fun _ => true) true m e (tab k (fun j => V (i * k + j))) = some x) ∧ (c = 0 ∨ ∃ el sp, d = .slice el sp ∧ el.length + sp.length = c) := by
  obtain ⟨A, n, c, rfl⟩ := okWide_slice ht hval
  obtain ⟨fuel, hf⟩ := h
  rcases open_slice ht hf with ⟨hcs, hx⟩ | ⟨a, len, cap, m, z, D, Pl, hcs, _, hl, hm, hmm, hx, hall⟩
  · simp [Value.cells] at hcs
    obtain ⟨rfl, rfl, rfl⟩ := hcs
    exact ⟨none, 0, 0, fun _ => undef, rfl, Nat.le_refl _, Nat.zero_le _, by rw [Nat.zero_mul]; exact Rd.zero, fun j hj => absurd hj (by omega), .inl rfl⟩
  · simp [Value.cells] at hcs
    obtain ⟨rfl, rfl, rfl⟩ := hcs
    simp only [if_true] at hmm
    subst hmm
    simp only [Prod.mk.injEq] at hx
    obtain ⟨rfl, rfl⟩ := hx
    have each : ∀ j, j < m → ∃ cs : List Value, cs.length = k ∧ (∀ i, i < k → W.cell? (a.add (j * k + i)) = cs[i]?) ∧ ∃ m' x, DataW.trod enc P W 0 (fun _ => true) true m' e cs = some x := by
      intro j hj
      obtain ⟨cs', g1, g2⟩ := hall j hj
      rw [ce] at g1
      obtain ⟨_, hlen, hcell⟩ := World.cells?_some g1
      refine ⟨cs', hlen, fun i hi => ?_, _, _, g2⟩
      have c0 := hcell i (by omega)
      rw [add_add] at c0
      exact c0
    obtain ⟨q, hq⟩ := choose_lt each
    have hV : ∀ j, j < m → ∀ i, i < k → W.cell? (a.add (j * k + i)) = some ((q j).getD i undef) := fun j hj i hi => by
      obtain ⟨h1, h2, _⟩ := hq j hj
      rw [h2 i hi, List.getElem?_eq_getElem (by omega)]
      simp [List.getD, show i < (q j).length by omega]
    refine ⟨some a, n, m, fun j => (q (j / k)).getD (j % k) undef, rfl, hl, hm, ?_, fun i hi => ?_, .inr ⟨_, _, rfl, ?_⟩⟩
    · intro hn
      have hspot : a.spot = none := by
        have h0 := hV 0 (by rcases Nat.eq_zero_or_pos m with h0 | h0 <;> (try subst h0) <;> (try simp at hl) <;> (try subst hl) <;> (try simp at hn) <;> omega) 0 hk
        rw [Nat.zero_mul, Nat.add_zero] at h0
        cases hsp : a.spot with
        | none => rfl
        | some s =>
          have e : (a.add 0).spot = some s := by unfold Addr.add; split <;> simp_all
          simp only [World.cell?] at h0
          split at h0
          · simp [e] at h0
          · cases h0
      obtain ⟨b, o, s⟩ := a
      simp only at hspot
      subst hspot
      have hmk : 0 < m * k := Nat.lt_of_lt_of_le hn (Nat.mul_le_mul_right _ hl)
      refine ⟨b, o, rfl, hlt (.cell b (o + 0)) (List.mem_append_left _ (MemPlace.mem_row.2 ⟨0, by rw [ce]; exact hmk, rfl⟩)), fun j hj => ?_⟩
      have hjk : j / k < m := by rw [Nat.div_lt_iff_lt_mul hk]; exact Nat.lt_of_lt_of_le hj (Nat.mul_le_mul_right _ hl)
      have h1 := hV (j / k) hjk (j % k) (Nat.mod_lt _ hk)
      rw [Nat.div_add_mod' j k] at h1
      rw [← add_plain]
      exact h1
    · obtain ⟨h1, h2, m', x, h3⟩ := hq i (by omega)
      refine ⟨m', x, ?_⟩
      rw [← h3]
      congr 1
      apply List.ext_getElem?
      intro j
      rw [tab_get]
      split
      · rename_i hj
        have e1 : (i * k + j) / k = i := by rw [Nat.add_comm, Nat.add_mul_div_right _ _ hk, Nat.div_eq_of_lt hj, Nat.zero_add]
        have e2 : (i * k + j) % k = j := by rw [Nat.add_comm, Nat.add_mul_mod_self_right, Nat.mod_eq_of_lt hj]
        simp only [e1, e2]
        rw [List.getElem?_eq_getElem (by omega)]
        simp [List.getD, show j < (q i).length by omega]
      · rw [List.getElem?_eq_none (by omega)]
    · simp; omega
end
end Go.Proofs.Ytcjjcjpkmjbfkaa

/-
  Rows of elements of k cells each, told by a list of anything: own rows, rows that are read, append.
-/
namespace Go.Proofs.Ytcjjcjpkmjbfkaa
open Go.RowKit Go.ChangeShapes Go.WideShapes Go.Deep
set_option linter.unusedVariables false

section
variable {α : Type} {k : Nat} {enc : α → List Value}
def cellsG (enc : α → List Value) (L : List α) : List Value := L.flatMap enc
theorem cellsG_snoc (L : List α) (s : α) : cellsG enc (L ++ [s]) = cellsG enc L ++ enc s := by unfold cellsG; simp
theorem cellsG_append (L M : List α) : cellsG enc (L ++ M) = cellsG enc L ++ cellsG enc M := by unfold cellsG; simp
theorem cellsG_len (hk : ∀ a, (enc a).length = k) : ∀ L : List α, (cellsG enc L).length = L.length * k
  | [] => by simp [cellsG]
  | s :: L => by
    have ih := cellsG_len hk L
    unfold cellsG at ih ⊢
    rw [List.flatMap_cons, List.length_append, ih, List.length_cons, hk, Nat.succ_mul, Nat.add_comm]
theorem cellsG_get (hk : ∀ a, (enc a).length = k) : ∀ (L : List α) (j : Nat) (s : α), L[j]? = some s → ∀ i, i < k → (cellsG enc L)[j * k + i]? = (enc s)[i]?
  | [], j, s, h, i, hi => by simp at h
  | a :: L, 0, s, h, i, hi => by
    simp only [List.getElem?_cons_zero, Option.some.injEq] at h
    subst h
    unfold cellsG
    rw [List.flatMap_cons, Nat.zero_mul, Nat.zero_add, List.getElem?_append_left (by rw [hk]; exact hi)]
  | a :: L, j + 1, s, h, i, hi => by
    rw [List.getElem?_cons_succ] at h
    have ih := cellsG_get hk L j s h i hi
    unfold cellsG at ih ⊢
    have e : (j + 1) * k + i = k + (j * k + i) := by rw [Nat.succ_mul]; omega
    rw [List.flatMap_cons, e, List.getElem?_append_right (by rw [hk]; omega), hk, Nat.add_sub_cancel_left]
    exact ih
theorem cellsG_tab (hk : ∀ a, (enc a).length = k) (L : List α) : cellsG enc L = tab (L.length * k) (fun j => (cellsG enc L).getD j undef) := by
  apply List.ext_getElem?
  intro j
  rw [tab_get]
  split
  · rename_i h
    rw [List.getD_eq_getElem?_getD, List.getElem?_eq_getElem (by rw [cellsG_len hk]; exact h)]
    rfl
  · rename_i h
    rw [List.getElem?_eq_none (by rw [cellsG_len hk]; omega)]
/-- A slice's elements, in a block below B (nil and empty let in). -/
def RdG (k : Nat) (enc : α → List Value) (w : World) (B : Nat) (A : Option Addr) (L : List α) : Prop :=
  0 < L.length → ∃ b o, A = some ⟨b, o, none⟩ ∧ b < B ∧ ∀ j s, L[j]? = some s → ∀ i, i < k → w.cell? ⟨b, o + j * k + i, none⟩ = some ((enc s).getD i undef)
/-- An own row of such elements. -/
def OwnG (t : TypeId) (k : Nat) (enc : α → List Value) (w : World) (base : Nat) (v : Value) (L : List α) : Prop := w.ownsRow base t k v L.length (cellsG enc L)
section
variable {w w' : World} {B B' n : Nat} {A : Option Addr} {L : List α} {t : TypeId} {base : Nat} {v : Value}
theorem RdG.nil : RdG k enc w B A [] := fun h => absurd h (by simp)
theorem RdG.keep (h : RdG k enc w B A L) (hk : ∀ b o, b < B → w'.cell? ⟨b, o, none⟩ = w.cell? ⟨b, o, none⟩) : RdG k enc w' B A L := fun hn => by
  obtain ⟨b, o, rfl, hb, hc⟩ := h hn
  exact ⟨b, o, rfl, hb, fun j s hj i hi => (hk _ _ hb).trans (hc j s hj i hi)⟩
theorem RdG.more (h : RdG k enc w B A L) (hB : B ≤ B') : RdG k enc w B' A L := fun hn => by
  obtain ⟨b, o, rfl, hb, hc⟩ := h hn
  exact ⟨b, o, rfl, by omega, hc⟩
theorem RdG.since (h : RdG k enc w B A L) (hB : B ≤ w.heap.size) (s : Since w w') : RdG k enc w' B A L := h.keep fun b o hb => s.1 b o (by omega)
theorem RdG.on (h : RdG k enc w w.heap.size A L) (s : Since w w') : RdG k enc w' w'.heap.size A L := (h.keep fun b o hb => s.1 b o hb).more s.below.size
theorem OwnG.nil (t : TypeId) (k : Nat) (enc : α → List Value) (w : World) (base : Nat) : OwnG t k enc w base (.slice none 0 0) [] := World.ownsRow_nil _ _ _ _
theorem OwnG.since (h : OwnG t k enc w base v L) (s : Since w w') : OwnG t k enc w' base v L := own_since_k (n := L.length) h s
theorem OwnG.alloc (h : OwnG t k enc w base v L) (o : Obj) : OwnG t k enc (w.alloc o) base v L := h.since ((Since.refl w).alloc o)
theorem OwnG.keep (h : OwnG t k enc w base v L) (hk : ∀ b, base ≤ b → b < w.heap.size → w'.heap[b]? = w.heap[b]?) : OwnG t k enc w' base v L := by
  refine ⟨h.1, ?_⟩
  rcases h.2 with h0 | ⟨g, cap, cur, e1, hb, hh, r⟩
  · exact .inl h0
  · refine .inr ⟨g, cap, cur, e1, hb, ?_, r⟩
    have hlt : g < w.heap.size := by
      rcases Nat.lt_or_ge g w.heap.size with hlt | hge
      · exact hlt
      · rw [Array.getElem?_eq_none hge] at hh; cases hh
    rw [hk g hb hlt]; exact hh
theorem OwnG.lt (h : OwnG t k enc w base v L) {g : Nat} (hg : v.ownBlock = some g) : base ≤ g ∧ g < w.heap.size := by
  rcases h.2 with ⟨rfl, _⟩ | ⟨g', c', cur, rfl, hb, hh, _⟩
  · cases hg
  · simp only [Value.ownBlock, Option.some.injEq] at hg
    subst hg
    rcases Nat.lt_or_ge g' w.heap.size with hlt | hge
    · exact ⟨hb, hlt⟩
    · rw [Array.getElem?_eq_none hge] at hh; cases hh
/-- .. kept where another block is grown. -/
theorem OwnG.grown {row : Option Nat} (h : OwnG t k enc w base v L) (hg : w.grownBy w' row) (hb : ∀ q, v.ownBlock = some q → row ≠ some q) : OwnG t k enc w' base v L := by
  refine ⟨h.1, ?_⟩
  rcases h.2 with h0 | ⟨g, cap, cur, rfl, hb', hh, r⟩
  · exact .inl h0
  · refine .inr ⟨g, cap, cur, rfl, hb', ?_, r⟩
    have hlt : g < w.heap.size := by
      rcases Nat.lt_or_ge g w.heap.size with hlt | hge
      · exact hlt
      · rw [Array.getElem?_eq_none hge] at hh; cases hh
    rw [hg.block g hlt (fun e => hb g rfl e.symm)]; exact hh
/-- What an own row reads as. -/
theorem OwnG.rd (hk0 : 0 < k) (hk : ∀ a, (enc a).length = k) (h : OwnG t k enc w base v L) : ∃ A c, v = .slice A L.length c ∧ L.length ≤ c ∧ RdG k enc w w.heap.size A L := by
  unfold OwnG at h
  rw [cellsG_tab hk] at h
  obtain ⟨A, c, rfl, hc, hr, _⟩ := own_k hk0 h
  refine ⟨A, c, rfl, hc, fun hn => ?_⟩
  obtain ⟨b, o, rfl, hb, hcell⟩ := hr (Nat.mul_pos hn hk0)
  refine ⟨b, o, rfl, hb, fun j s hj i hi => ?_⟩
  have hjl : j < L.length := by
    rcases Nat.lt_or_ge j L.length with h | h
    · exact h
    · rw [List.getElem?_eq_none h] at hj; cases hj
  have hlt : j * k + i < L.length * k := by
    have h1 : (j + 1) * k ≤ L.length * k := Nat.mul_le_mul_right _ hjl
    rw [Nat.succ_mul] at h1
    omega
  have h1 : w.cell? ⟨b, o + (j * k + i), none⟩ = some ((cellsG enc L).getD (j * k + i) undef) := hcell (j * k + i) hlt
  rw [List.getD_eq_getElem?_getD, cellsG_get hk L j s hj i hi, ← List.getD_eq_getElem?_getD, ← Nat.add_assoc] at h1
  exact h1
end
section
variable {P : Program}
/-- append of a slice to an own row. -/
theorem wpList_append_g {w : World} {ops : Array Oper} {rest : List Oper} {o : Oper} {a : Act} {Q : Exit → Act → World → Prop} (hgd : o.guard = none) (s x : Operand) (t e : TypeId)
    (ho : o.op = .call { callee := .builtin .append, args := #[s, x], argTypes := #[t, t] }) (hk0 : 0 < k) (hk : ∀ a, (enc a).length = k) (h1 : ∀ a, ∀ u ∈ enc a, u.oneCell' = true) (bytes : Nat)
    (ht : P.underlying t = some (.slice e)) (hinfo : ∃ i z, P.info? e = some i ∧ i.zero = some z ∧ i.size = k ∧ i.bytes = bytes ∧ z.cells.size = k)
    (base : Nat) (v : Value) (L : List α) (hs : a.eval s = v) (hown : OwnG e k enc w base v L) (B : Nat) (A : Option Addr) (c : Nat) (M : List α) (hx : a.eval x = .slice A M.length c) (hr : RdG k enc w B A M)
    (hbytes : (L.length + M.length) * bytes ≤ 140737488355328) (h63 : L.length + M.length ≤ maxLen) (hbase : base ≤ w.heap.size)
    (h : ∀ v' w', OwnG e k enc w' base v' (L ++ M) → w.grownBy w' v.ownBlock → (∀ q, v.ownBlock = some q → base ≤ q ∧ q < w.heap.size) → wpList P ops Q rest (a.put o.dst v') w') :
    wpList P ops Q (o :: rest) a w := by
  obtain ⟨i, z, hi, hz, hsz, hby, hzs⟩ := hinfo
  have hrr : Rd w B A (M.length * k) (fun j => (cellsG enc M).getD j undef) := fun hn => by
    have hM : 0 < M.length := by
      rcases Nat.eq_zero_or_pos M.length with h | h
      · rw [h, Nat.zero_mul] at hn; omega
      · exact h
    obtain ⟨b, o', rfl, hb, hc⟩ := hr hM
    refine ⟨b, o', rfl, hb, fun j hj => ?_⟩
    have hjk : j / k < M.length := by rw [Nat.div_lt_iff_lt_mul hk0]; exact hj
    have hm := Nat.mod_lt j hk0
    have hg := hc (j / k) _ (List.getElem?_eq_getElem hjk) (j % k) hm
    have hg2 := cellsG_get hk M (j / k) _ (List.getElem?_eq_getElem hjk) (j % k) hm
    rw [Nat.div_add_mod' j k] at hg2
    rw [Nat.add_assoc, Nat.div_add_mod' j k] at hg
    show _ = some ((cellsG enc M).getD j undef)
    rw [List.getD_eq_getElem?_getD, hg2, ← List.getD_eq_getElem?_getD]
    exact hg
  have hone : ∀ u ∈ tab (M.length * k) (fun j => (cellsG enc M).getD j undef), u.oneCell' = true := by
    rw [← cellsG_tab hk]
    intro u hu
    unfold cellsG at hu
    rw [List.mem_flatMap] at hu
    obtain ⟨a, _, ha⟩ := hu
    exact h1 a u ha
  have hlt := fun q (hq : v.ownBlock = some q) => hown.lt hq
  refine wpList_append_k w hgd s x t ho base e i z k bytes ht hi hz hsz hby hzs hk0 v L.length (cellsG enc L) hs hown B A M.length c _ hx hrr hone hbytes h63 hbase (fun v' w' h9 hg => h v' w' ?_ hg hlt)
  rw [← cellsG_tab hk, ← cellsG_append] at h9
  unfold OwnG
  rw [List.length_append]
  exact h9
end
/-- A new block that holds one element's cells. -/
theorem rdG_one {w : World} {cs : Array Value} {ty : TypeId} {b : Nat} (hb : b = w.heap.size) (s : α) (h : ∀ i, i < k → cs[i]? = some ((enc s).getD i undef)) : RdG k enc (w.alloc (.cells cs ty)) (w.alloc (.cells cs ty)).heap.size (some ⟨b, 0, none⟩) [s] := fun _ => by
  subst hb
  refine ⟨w.heap.size, 0, rfl, by simp, fun j s' hj i hi => ?_⟩
  cases j with
  | zero =>
    simp only [List.getElem?_cons_zero, Option.some.injEq] at hj
    subst hj
    rw [World.cell?_alloc_new, Nat.zero_mul, Nat.zero_add]
    exact h i hi
  | succ j => simp at hj
/-- .. and of some elements. -/
theorem rdG_lit {w : World} {cs : Array Value} {ty : TypeId} {b : Nat} (hb : b = w.heap.size) (L : List α) (h : ∀ j s, L[j]? = some s → ∀ i, i < k → cs[0 + j * k + i]? = some ((enc s).getD i undef)) : RdG k enc (w.alloc (.cells cs ty)) (w.alloc (.cells cs ty)).heap.size (some ⟨b, 0, none⟩) L := fun _ => by
  subst hb
  refine ⟨w.heap.size, 0, rfl, by simp, fun j s hj i hi => ?_⟩
  rw [World.cell?_alloc_new]
  exact h j s hj i hi
end
theorem Row.grownB {w w' : World} {b n : Nat} {row : Option Nat} {f : Nat → Value} (h : Row w b n f) (hg : w.grownBy w' row) (hb : row ≠ some b) : Row w' b n f := by
  have e := hg.block b h.2.2 (fun x => hb x.symm)
  refine ⟨fun j hj => ?_, fun j => ?_, Nat.lt_of_lt_of_le h.2.2 hg.size⟩
  · rw [← h.1 j hj]; simp only [World.cell?, e]
  · rw [← h.2.1 j]; simp only [World.frozen?, e]
theorem cell_grown {w w' : World} {b o : Nat} {row : Option Nat} {v : Value} (h : w.cell? ⟨b, o, none⟩ = some v) (hb : b < w.heap.size) (hg : w.grownBy w' row) (hr : row ≠ some b) : w'.cell? ⟨b, o, none⟩ = some v := by
  have e := hg.block b hb (fun x => hr x.symm)
  rw [← h]; simp only [World.cell?, e]
end Go.Proofs.Ytcjjcjpkmjbfkaa

/-
  Rows told by a list: parts of what is read; append in a region that draws its order.
-/
namespace Go.Proofs.Ytcjjcjpkmjbfkaa
open Go.RowKit Go.ChangeShapes Go.WideShapes Go.Deep
set_option linter.unusedVariables false

theorem OwnG.empty {α : Type} {enc : α → List Value} {k : Nat} (t : TypeId) (w : World) (base b : Nat) (hb : b = w.heap.size) (hbase : base ≤ w.heap.size) : OwnG t k enc (w.alloc (.cells #[] t)) base (.slice (some ⟨b, 0, none⟩) 0 0) [] := by
  subst hb
  exact ⟨by simp [cellsG], .inr ⟨w.heap.size, 0, _, rfl, hbase, heap_alloc_new w _, Nat.le_refl _, by simp [maxLen], by simp, by simp [cellsG]⟩⟩
theorem RdG.drop {α : Type} {enc : α → List Value} {k : Nat} {w : World} {B b o : Nat} {L : List α} (h : RdG k enc w B (some ⟨b, o, none⟩) L) (d : Nat) : RdG k enc w B (some ⟨b, o + d * k, none⟩) (L.drop d) := fun hn => by
  obtain ⟨b', o', e, hb, hc⟩ := h (by rw [List.length_drop] at hn; omega)
  injection e with e
  injection e with e1 e2
  subst e1 e2
  refine ⟨b, o + d * k, rfl, hb, fun j s hj i hi => ?_⟩
  rw [List.getElem?_drop] at hj
  have h1 := hc (d + j) s hj i hi
  rw [Nat.add_mul, ← Nat.add_assoc] at h1
  exact h1
theorem RdG.take {α : Type} {enc : α → List Value} {k : Nat} {w : World} {B : Nat} {A : Option Addr} {L : List α} (h : RdG k enc w B A L) (d : Nat) : RdG k enc w B A (L.take d) := fun hn => by
  obtain ⟨b, o, rfl, hb, hc⟩ := h (by rw [List.length_take] at hn; omega)
  refine ⟨b, o, rfl, hb, fun j s hj i hi => hc j s ?_ i hi⟩
  rw [List.getElem?_take] at hj
  split at hj
  · exact hj
  · cases hj
section
variable {α : Type} {k : Nat} {enc : α → List Value} {P : Program}
theorem oper_append_g {w : World} {o : Oper} {a : Act} {K : Act → World → Prop} {Q : Exit → Act → World → Prop} (s x : Operand) (t e : TypeId)
    (ho : o.op = .call { callee := .builtin .append, args := #[s, x], argTypes := #[t, t] }) (hk0 : 0 < k) (hk : ∀ a, (enc a).length = k) (h1 : ∀ a, ∀ u ∈ enc a, u.oneCell' = true) (bytes : Nat)
    (ht : P.underlying t = some (.slice e)) (hinfo : ∃ i z, P.info? e = some i ∧ i.zero = some z ∧ i.size = k ∧ i.bytes = bytes ∧ z.cells.size = k)
    (base : Nat) (v : Value) (L : List α) (hs : a.eval s = v) (hown : OwnG e k enc w base v L) (B : Nat) (A : Option Addr) (n c : Nat) (M : List α) (hn : n = M.length) (hx : a.eval x = .slice A n c) (hr : RdG k enc w B A M)
    (hbytes : (L.length + M.length) * bytes ≤ 140737488355328) (h63 : L.length + M.length ≤ maxLen) (hbase : base ≤ w.heap.size)
    (h : ∀ v' w', OwnG e k enc w' base v' (L ++ M) → w.grownBy w' v.ownBlock → (∀ q, v.ownBlock = some q → base ≤ q ∧ q < w.heap.size) → K (a.put o.dst v') w') :
    Oper.wp P o a w K Q := by
  subst hn
  obtain ⟨i, z, hi, hz, hsz, hby, hzs⟩ := hinfo
  have hrr : Rd w B A (M.length * k) (fun j => (cellsG enc M).getD j undef) := fun hn => by
    have hM : 0 < M.length := by
      rcases Nat.eq_zero_or_pos M.length with h | h
      · rw [h, Nat.zero_mul] at hn; omega
      · exact h
    obtain ⟨b, o', rfl, hb, hc⟩ := hr hM
    refine ⟨b, o', rfl, hb, fun j hj => ?_⟩
    have hjk : j / k < M.length := by rw [Nat.div_lt_iff_lt_mul hk0]; exact hj
    have hm := Nat.mod_lt j hk0
    have hg := hc (j / k) _ (List.getElem?_eq_getElem hjk) (j % k) hm
    have hg2 := cellsG_get hk M (j / k) _ (List.getElem?_eq_getElem hjk) (j % k) hm
    rw [Nat.div_add_mod' j k] at hg2
    rw [Nat.add_assoc, Nat.div_add_mod' j k] at hg
    show _ = some ((cellsG enc M).getD j undef)
    rw [List.getD_eq_getElem?_getD, hg2, ← List.getD_eq_getElem?_getD]
    exact hg
  have hone : ∀ u ∈ tab (M.length * k) (fun j => (cellsG enc M).getD j undef), u.oneCell' = true := by
    rw [← cellsG_tab hk]
    intro u hu
    unfold cellsG at hu
    rw [List.mem_flatMap] at hu
    obtain ⟨a, _, ha⟩ := hu
    exact h1 a u ha
  have hlt := fun q (hq : v.ownBlock = some q) => hown.lt hq
  obtain ⟨v', w', hrun, h2, h3⟩ := run_append_k (P := P) w base t o.type e i z k bytes ht hi hz hsz hby hzs hk0 v L.length (cellsG enc L) hown B A M.length c _ hrr hone hbytes h63 hbase
  rw [← cellsG_tab hk, ← cellsG_append] at h2
  unfold Oper.wp execOp
  simp only [ho, resolve, invoke, builtin, Sem.run_bind, Sem.run_pure, Result.andThen_ok, List.map_toArray, List.map_cons, List.map_nil, hs, hx, hrun]
  refine h v' w' ?_ h3 hlt
  unfold OwnG
  rw [List.length_append]
  exact h2
end
end Go.Proofs.Ytcjjcjpkmjbfkaa

/-
  Layer 2: 'Put', walked again: the block that it answers, whole.
-/
namespace Go.Proofs.Ytcjjcjpkmjbfkaa
open Go.RowKit
set_option linter.unusedVariables false
theorem All.set {w : World} {g n i : Nat} {e : TypeId} {V : Nat → Value} (h : All w g e n V) (hi : i < n) (v : Value) : All (w.setCell ⟨g, i, none⟩ v) g e n (fun j => if j = i then v else V j) := by
  unfold All at h ⊢
  have hl : i < (tab n V).length := by rw [tab_len]; exact hi
  have e1 : ((tab n V).toArray.set! i v) = (tab n (fun j => if j = i then v else V j)).toArray := by
    apply Array.ext'
    rw [Array.set!_eq_setIfInBounds, Array.toList_setIfInBounds]
    apply List.ext_getElem?
    intro j
    rw [List.getElem?_set, tab_get, tab_get, tab_len]
    by_cases hj : i = j
    · subst hj; rw [if_pos rfl, if_pos hi, if_pos hi, if_pos rfl]
    · rw [if_neg hj, show (if j = i then v else V j) = V j from if_neg (fun x => hj x.symm)]
  rw [← e1]
  simp [World.setCell, Array.getElem?_modify, h]
end Go.Proofs.Ytcjjcjpkmjbfkaa

/-
  Layer 2: 'Put', walked again: the block that it answers, whole.
-/
namespace Go.Proofs.Ytcjjcjpkmjbfkaa
open Go.RowKit
set_option linter.unusedVariables false
set_option maxRecDepth 100000 in
set_option maxHeartbeats 4000000 in
theorem ref_putA (n k : Int) (w : World) (hn : In64 n) (hk : In64 k) :
    Calls Try.prog 26 #[.int .i64 n, .int .i64 k] w fun e w' => ∃ g, e = .returned (.slice (some ⟨g, 0, none⟩) (clampW k) (clampW k)) ∧ w.heap.size ≤ g ∧ All w' g 5 (clampW k) (U8 (byteOf n (clampW k))) ∧ Since w w' := by
  obtain ⟨i0, hi0, hz0, hz1, hz2⟩ := info_parts Try.info_u8
  by_cases h1 : 1 ≤ k ∧ k ≤ 8
  · obtain ⟨m, rfl⟩ : ∃ m : Nat, k = m := ⟨k.toNat, by omega⟩
    obtain ⟨h1, h2⟩ := h1
    have hm : m ≤ 8 := by omega
    have hm0 : 0 < m := by omega
    have hc : clampW m = m := by unfold clampW; rw [if_neg (by omega), if_neg (by omega)]; rfl
    rw [hc]
    have b1 : 1 * m ≤ 281474976710656 := by omega
    have b2 : m ≤ maxLen := by simp only [maxLen]; omega
    clear hc
    go_enter Try.func26, Try.ntmps26
    go_wp2_with (at_make; refine wpList_make_tab _ (by rfl) (.tmp 12) (.tmp 12) _ (by rfl) 5 i0 .u8 1 Try.underlying25 hi0 hz0 hz1 hz2 .i64 .i64 m (by rfl) (by rfl) b1 b2 ?_; intro w1 hown1 hS1)
    have hrow := All.of_own hown1
    clear hown1
    go_loopw [7, 8] (fun x y wr => ∃ j : Nat, j ≤ m ∧ x = .int .u64 (at256 n j) ∧ y = .int .i64 ((m : Nat) - 1 - (j : Int)) ∧ Since w wr ∧ All wr w.heap.size 5 m (U8 (fun q => if m ≤ q + j then byteOf n m q else 0))) (fun _ y _ => (intOf y + 1).toNat)
    case atStart => exact ⟨0, by omega, by simp [at256, low64, IntKind.wrap_u64], by simp, hS1, hrow.congr (fun q hq => by simp only [U8, IntRow]; rw [if_neg (by omega)])⟩
    case round =>
      obtain ⟨j, hj, rfl, rfl, hSr, hR⟩ := hrel
      by_cases hjm : j < m
      · obtain ⟨q, hq⟩ : ∃ q : Nat, q + 1 + j = m := ⟨m - 1 - j, by omega⟩
        have hqi : ((m : Nat) : Int) - 1 - (j : Int) = (q : Int) := by omega
        have hqm : (q : Int) < m := by omega
        have hcell := hR.row.1 q (by omega)
        have hfr := hR.row.2.1 q
        have hx := at256_bd n j
        have hnx := at256_next n j
        have hby := at256_byte n hjm (by omega)
        rw [show m - 1 - j = q by omega] at hby
        rw [hqi]
        go_wp2
        rw [hnx]
        refine ⟨⟨j + 1, by omega, rfl, by congr 1 <;> omega, hSr.setCell (Nat.le_refl _) _, (hR.set (i := q) (by omega) _).congr (fun t ht => ?_)⟩, by simp [intOf] <;> omega⟩
        by_cases hqt : t = q
        · subst hqt
          simp only [U8, IntRow]
          rw [if_pos trivial, if_pos (by omega)]
        · simp only [U8, IntRow]
          rw [if_neg hqt]
          by_cases ht2 : m ≤ t + j
          · rw [if_pos ht2, if_pos (by omega)]
          · rw [if_neg ht2, if_neg (by omega)]
      · obtain rfl : m = j := by omega
        have hR' := hR.congr (U := U8 (byteOf n m)) (fun q hq => by simp only [U8, IntRow]; rw [if_pos (by omega)])
        clear hR
        go_wp2
        go_ret
        exact ⟨_, rfl, Nat.le_refl _, hR', hSr⟩
  by_cases h2 : k ≤ 0
  · have hc : clampW k = 0 := by unfold clampW; split <;> (try split) <;> omega
    rw [hc]
    have b1 : 1 * 0 ≤ 281474976710656 := by omega
    have b2 : 0 ≤ maxLen := by simp only [maxLen]; omega
    clear hc
    go_enter Try.func26, Try.ntmps26
    go_wp2_with (at_make; refine wpList_make_tab _ (by rfl) (.tmp 12) (.tmp 12) _ (by rfl) 5 i0 .u8 1 Try.underlying25 hi0 hz0 hz1 hz2 .i64 .i64 0 (by rfl) (by rfl) b1 b2 ?_; intro w1 hown1 hS1)
    have hrow := All.of_own hown1
    clear hown1
    go_loopw [7, 8] (fun x y wr => ∃ j : Nat, j ≤ 0 ∧ x = .int .u64 (at256 n j) ∧ y = .int .i64 ((0 : Nat) - 1 - (j : Int)) ∧ Since w wr ∧ All wr w.heap.size 5 0 (U8 (fun q => if 0 ≤ q + j then byteOf n 0 q else 0))) (fun _ y _ => (intOf y + 1).toNat)
    case atStart => exact ⟨0, by omega, by simp [at256, low64, IntKind.wrap_u64], by simp, hS1, hrow.congr (fun q hq => by simp only [U8, IntRow]; rw [if_neg (by omega)])⟩
    case round =>
      obtain ⟨j, hj, rfl, rfl, hSr, hR⟩ := hrel
      by_cases hjm : j < 0
      · exact absurd hjm (by omega)
      · obtain rfl : 0 = j := by omega
        have hR' := hR.congr (U := U8 (byteOf n 0)) (fun q hq => by simp only [U8, IntRow]; rw [if_pos (by omega)])
        clear hR
        go_wp2
        go_ret
        exact ⟨_, rfl, Nat.le_refl _, hR', hSr⟩
  · have h2' : 8 < k := by omega
    have hc : clampW k = 8 := by unfold clampW; rw [if_neg (by omega), if_pos (by omega)]
    rw [hc]
    have b1 : 1 * 8 ≤ 281474976710656 := by omega
    have b2 : 8 ≤ maxLen := by simp only [maxLen]; omega
    clear hc
    go_enter Try.func26, Try.ntmps26
    go_wp2_with (at_make; refine wpList_make_tab _ (by rfl) (.tmp 12) (.tmp 12) _ (by rfl) 5 i0 .u8 1 Try.underlying25 hi0 hz0 hz1 hz2 .i64 .i64 8 (by rfl) (by rfl) b1 b2 ?_; intro w1 hown1 hS1)
    have hrow := All.of_own hown1
    clear hown1
    go_loopw [7, 8] (fun x y wr => ∃ j : Nat, j ≤ 8 ∧ x = .int .u64 (at256 n j) ∧ y = .int .i64 ((8 : Nat) - 1 - (j : Int)) ∧ Since w wr ∧ All wr w.heap.size 5 8 (U8 (fun q => if 8 ≤ q + j then byteOf n 8 q else 0))) (fun _ y _ => (intOf y + 1).toNat)
    case atStart => exact ⟨0, by omega, by simp [at256, low64, IntKind.wrap_u64], by simp, hS1, hrow.congr (fun q hq => by simp only [U8, IntRow]; rw [if_neg (by omega)])⟩
    case round =>
      obtain ⟨j, hj, rfl, rfl, hSr, hR⟩ := hrel
      by_cases hjm : j < 8
      · obtain ⟨q, hq⟩ : ∃ q : Nat, q + 1 + j = 8 := ⟨8 - 1 - j, by omega⟩
        have hqi : ((8 : Nat) : Int) - 1 - (j : Int) = (q : Int) := by omega
        have hqm : (q : Int) < 8 := by omega
        have hcell := hR.row.1 q (by omega)
        have hfr := hR.row.2.1 q
        have hx := at256_bd n j
        have hnx := at256_next n j
        have hby := at256_byte n hjm (by omega)
        rw [show 8 - 1 - j = q by omega] at hby
        rw [hqi]
        go_wp2
        rw [hnx]
        refine ⟨⟨j + 1, by omega, rfl, by congr 1 <;> omega, hSr.setCell (Nat.le_refl _) _, (hR.set (i := q) (by omega) _).congr (fun t ht => ?_)⟩, by simp [intOf] <;> omega⟩
        by_cases hqt : t = q
        · subst hqt
          simp only [U8, IntRow]
          rw [if_pos trivial, if_pos (by omega)]
        · simp only [U8, IntRow]
          rw [if_neg hqt]
          by_cases ht2 : 8 ≤ t + j
          · rw [if_pos ht2, if_pos (by omega)]
          · rw [if_neg ht2, if_neg (by omega)]
      · obtain rfl : 8 = j := by omega
        have hR' := hR.congr (U := U8 (byteOf n 8)) (fun q hq => by simp only [U8, IntRow]; rw [if_pos (by omega)])
        clear hR
        go_wp2
        go_ret
        exact ⟨_, rfl, Nat.le_refl _, hR', hSr⟩
end Go.Proofs.Ytcjjcjpkmjbfkaa

/-
  Bytes as lists of numbers: rows that read so, rows of a call's own, append; 'Put', 'Copy', 'Same' told by lists.
-/
namespace Go.Proofs.Ytcjjcjpkmjbfkaa
open Go.RowKit Go.ChangeShapes Go.WideShapes Go.Deep
set_option linter.unusedVariables false

def byL (x : Int) : List Value := [.int .u8 x]
theorem byL_len (x : Int) : (byL x).length = 1 := rfl
theorem byL_one (x : Int) : ∀ u ∈ byL x, u.oneCell' = true := by
  intro u hu
  simp only [byL, List.mem_cons, List.not_mem_nil, or_false] at hu
  subst hu
  rfl
theorem infoBy : ∃ i z, Try.prog.info? 5 = some i ∧ i.zero = some z ∧ i.size = 1 ∧ i.bytes = 1 ∧ z.cells.size = 1 := by
  obtain ⟨i0, hi, hz0, hz1, hz2⟩ := info_parts Try.info_u8
  exact ⟨i0, _, hi, hz0, hz1, hz2, rfl⟩
abbrev RdB (w : World) (B : Nat) (A : Option Addr) (L : List Int) : Prop := RdG 1 byL w B A L
abbrev OwnB (w : World) (base : Nat) (v : Value) (L : List Int) : Prop := OwnG 5 1 byL w base v L
def fnL (L : List Int) (j : Nat) : Int := L.getD j 0
theorem fnL_get {L : List Int} {j : Nat} (h : j < L.length) : L[j]? = some (fnL L j) := by
  unfold fnL; rw [List.getD_eq_getElem?_getD, List.getElem?_eq_getElem h]; rfl
section
variable {w w' : World} {B n : Nat} {A : Option Addr} {L : List Int} {f : Nat → Int}
theorem rdb_rd (h : RdB w B A L) : Rd w B A L.length (U8 (fnL L)) := fun hn => by
  obtain ⟨b, o, rfl, hb, hc⟩ := h hn
  refine ⟨b, o, rfl, hb, fun j hj => ?_⟩
  have h1 := hc j _ (fnL_get hj) 0 (by omega)
  rw [Nat.mul_one, Nat.add_zero] at h1
  exact h1
theorem rdb_rd' (h : RdB w B A L) (hn : n = L.length) : Rd w B A n (U8 (fnL L)) := by subst hn; exact rdb_rd h
theorem rdb_of (h : Rd w B A n (U8 f)) (hn : n = L.length) (hf : ∀ j, j < n → f j = fnL L j) : RdB w B A L := fun h0 => by
  subst hn
  obtain ⟨b, o, rfl, hb, hc⟩ := h h0
  refine ⟨b, o, rfl, hb, fun j s hj i hi => ?_⟩
  obtain rfl : i = 0 := by omega
  have hjl : j < L.length := by
    rcases Nat.lt_or_ge j L.length with h | h
    · exact h
    · rw [List.getElem?_eq_none h] at hj; cases hj
  rw [fnL_get hjl] at hj
  injection hj with hj
  subst hj
  rw [Nat.mul_one, Nat.add_zero, hc j hjl, U8, IntRow, hf j hjl]
  rfl
theorem rdb_map (h : Rd w B A n (U8 f)) : RdB w B A ((List.range n).map f) := rdb_of h (by simp) (fun j hj => by simp [fnL, List.getD_eq_getElem?_getD, hj])
/-- A new block of bytes, as a slice. -/
theorem rdb_new (w : World) (b : Nat) (hb : b = w.heap.size) (t : TypeId) (cs : Array Value) (L : List Int) (hcs : cs = (L.map (Value.int .u8)).toArray) : RdB (w.alloc (.cells cs t)) (w.alloc (.cells cs t)).heap.size (some ⟨b, 0, none⟩) L := by
  subst hcs
  refine rdG_lit hb L (fun j s hj i hi => ?_)
  obtain rfl : i = 0 := by omega
  simp [hj, byL]
end
section
variable {P : Program}
/-- append of bytes to bytes of the call's own. -/
theorem wpList_append_b {w w0 : World} {ops : Array Oper} {rest : List Oper} {o : Oper} {a : Act} {Q : Exit → Act → World → Prop} (hgd : o.guard = none) (s x : Operand)
    (ho : o.op = .call { callee := .builtin .append, args := #[s, x], argTypes := #[25, 25] })
    (hS : Since w0 w) (v : Value) (L : List Int) (hs : a.eval s = v) (hown : OwnB w w0.heap.size v L) (B : Nat) (A : Option Addr) (n c : Nat) (M : List Int) (hn : n = M.length) (hx : a.eval x = .slice A n c) (hr : RdB w B A M)
    (hbytes : L.length + M.length ≤ 140737488355328)
    (h : ∀ v' w', OwnB w' w0.heap.size v' (L ++ M) → Since w0 w' → wpList Try.prog ops Q rest (a.put o.dst v') w') :
    wpList Try.prog ops Q (o :: rest) a w := by
  subst hn
  refine wpList_append_g hgd s x 25 5 ho (by omega) byL_len byL_one 1 Try.underlying25 infoBy w0.heap.size v L hs hown B A c M hx hr (by omega) (by simp only [maxLen]; omega) hS.below.size (fun v' w' h9 hg hlt => h v' w' h9 (since_grown hS hg (fun k hk => (hlt k hk).1)))
end
theorem own_app {w : World} {base : Nat} {v : Value} {L M N : List Int} (h : OwnB w base v (L ++ M)) (e : L ++ M = N) : OwnB w base v N := by subst e; exact h

theorem rput_l (m : Nat) (x y : Int) (w : World) (hx : In64 x) (hy : y = m) (hm : m ≤ 8) : Calls Try.prog 26 #[.int .i64 x, .int .i64 y] w fun e w' => ∃ g, e = .returned (.slice (some ⟨g, 0, none⟩) m m) ∧ w.heap.size ≤ g ∧ RdB w' w'.heap.size (some ⟨g, 0, none⟩) (putL x m) ∧ Since w w' := by
  refine (rput_in m x y w hx hy hm).mono ?_
  rintro e w' ⟨g, rfl, hg, hr, hS⟩
  exact ⟨g, rfl, hg, rdb_map (Rd.of_row hr), hS⟩

theorem own_of_all {w : World} {g n base : Nat} {f : Nat → Int} (h : All w g 5 n (U8 f)) (hn : n ≤ maxLen) (hb : base ≤ g) : OwnB w base (.slice (some ⟨g, 0, none⟩) n n) ((List.range n).map f) := by
  have e : tab n (U8 f) = cellsG byL ((List.range n).map f) := by
    unfold tab cellsG
    rw [List.flatMap_map]
    simp only [byL]
    induction (List.range n) with
    | nil => rfl
    | cons a l ih => rw [List.map_cons, List.flatMap_cons, ih]; rfl
  have hl : ((List.range n).map f).length = n := by simp
  unfold All at h
  refine ⟨by rw [cellsG_len byL_len], .inr ⟨g, n, (tab n (U8 f)).toArray, by rw [hl], hb, h, by rw [hl]; exact Nat.le_refl _, hn, by simp [tab_len], by rw [← e, hl, Nat.mul_one]; exact List.take_of_length_le (by rw [tab_len]; exact Nat.le_refl _)⟩⟩

theorem rput_o (m : Nat) (x y : Int) (w : World) (hx : In64 x) (hy : y = m) (hm : m ≤ 8) : Calls Try.prog 26 #[.int .i64 x, .int .i64 y] w fun e w' => ∃ g, e = .returned (.slice (some ⟨g, 0, none⟩) m m) ∧ w.heap.size ≤ g ∧ OwnB w' w.heap.size (.slice (some ⟨g, 0, none⟩) m m) (putL x m) ∧ Since w w' := by
  subst hy
  have hc : clampW m = m := by unfold clampW; split <;> (try split) <;> omega
  have h := ref_putA x m w hx (by unfold In64; omega)
  rw [hc] at h
  refine h.mono ?_
  rintro e w' ⟨g, rfl, hg, hr, hS⟩
  exact ⟨g, rfl, hg, own_of_all hr (by simp only [maxLen]; omega) hg, hS⟩

theorem OwnG.low {α : Type} {t : TypeId} {k : Nat} {enc : α → List Value} {w : World} {base base' : Nat} {v : Value} {L : List α} (h : OwnG t k enc w base v L) (hb : base' ≤ base) : OwnG t k enc w base' v L := by
  refine ⟨h.1, ?_⟩
  rcases h.2 with h0 | ⟨g, cap, cur, e, hg, r⟩
  · exact .inl h0
  · exact .inr ⟨g, cap, cur, e, Nat.le_trans hb hg, r⟩
theorem byteOf_range (n : Int) (m j : Nat) : 0 ≤ byteOf n m j ∧ byteOf n m j ≤ 255 := byte_range n m j
def Bytes (L : List Int) : Prop := ∀ v ∈ L, 0 ≤ v ∧ v ≤ 255
theorem bytes_put (x : Int) (m : Nat) : Bytes (putL x m) := fun v hv => by
  unfold putL at hv
  obtain ⟨j, _, rfl⟩ := List.mem_map.1 hv
  exact byte_range _ _ _
theorem bytes_app {A B : List Int} (h : Bytes A) (k : Bytes B) : Bytes (A ++ B) := fun v hv => by
  rw [List.mem_append] at hv
  exact hv.elim (h v) (k v)
theorem bytes_fn {L : List Int} (h : Bytes L) : ∀ j, j < L.length → 0 ≤ fnL L j ∧ fnL L j ≤ 255 := fun j hj => h _ (List.mem_of_getElem? (fnL_get hj))
theorem bytes_map {n : Nat} {f : Nat → Int} (h : ∀ j, j < n → 0 ≤ f j ∧ f j ≤ 255) : Bytes ((List.range n).map f) := fun v hv => by
  obtain ⟨j, hj, rfl⟩ := List.mem_map.1 hv
  exact h j (by simpa using hj)
theorem same_l (A B : Option Addr) (n m c d : Nat) (L M : List Int) (w : World) (hn : n = L.length) (hm : m = M.length) (h1 : RdB w w.heap.size A L) (h2 : RdB w w.heap.size B M) (e : L = M) :
    Calls Try.prog 13 #[.slice A n c, .slice B m d] w fun e w' => e = .returned (.bool true) ∧ w' = w := by
  subst e; subst hn; subst hm
  exact ref_same A B _ c d _ _ w (rdb_rd h1) (rdb_rd h2) (fun _ _ => rfl)
theorem copy_l (A : Option Addr) (n c : Nat) (L : List Int) (w : World) (hn : n = L.length) (h : RdB w w.heap.size A L) (hl : L.length ≤ 140737488355328) :
    Calls Try.prog 9 #[.slice A n c] w fun e w' => ∃ g cap, e = .returned (.slice (some ⟨g, 0, none⟩) n cap) ∧ n ≤ cap ∧ w.heap.size ≤ g ∧ OwnB w' w.heap.size (.slice (some ⟨g, 0, none⟩) n cap) L ∧ RdB w' w'.heap.size (some ⟨g, 0, none⟩) L ∧ Since w w' := by
  subst hn
  refine (ref_copy A L.length c (fnL L) w (rdb_rd h) hl).mono ?_
  rintro e w' ⟨g, cap, rfl, ho, hS⟩
  refine ⟨g, cap, rfl, ho.cap, ho.base, ?_, rdb_of (Rd.of_row ho.row) rfl (fun _ _ => rfl), hS⟩
  unfold Own at ho
  have e : tab L.length (U8 (fnL L)) = cellsG byL L := by
    apply List.ext_getElem?
    intro j
    rw [tab_get]
    by_cases hj : j < L.length
    · rw [if_pos hj]
      have := cellsG_get (k := 1) byL_len L j _ (fnL_get hj) 0 (by omega)
      rw [Nat.mul_one, Nat.add_zero] at this
      rw [this]; rfl
    · rw [if_neg hj, List.getElem?_eq_none (by rw [cellsG_len byL_len]; omega)]
  rw [e] at ho
  exact ho
end Go.Proofs.Ytcjjcjpkmjbfkaa

/-
  Layer 8: small functions, walked: matrixSize, outside, has, short.
-/
namespace Go.Proofs.Ytcjjcjpkmjbfkaa
open Go.RowKit Go.ChangeShapes Go.WideShapes Go.Deep
set_option linter.unusedVariables false

theorem nat_and_pow (a k : Nat) : a &&& 2 ^ k = if a / 2 ^ k % 2 = 1 then 2 ^ k else 0 := by
  have hb : a.testBit k = decide (a / 2 ^ k % 2 = 1) := Nat.testBit_eq_decide_div_mod_eq
  apply Nat.eq_of_testBit_eq
  intro i
  rw [Nat.testBit_and, Nat.testBit_two_pow]
  by_cases h : a / 2 ^ k % 2 = 1
  · rw [if_pos h, Nat.testBit_two_pow]
    by_cases e : k = i
    · subst e; rw [hb]; simp [h]
    · simp [e]
  · rw [if_neg h, Nat.zero_testBit]
    by_cases e : k = i
    · subst e; rw [hb]; simp [h]
    · simp [e]
theorem and_pow (x : Int) (k : Nat) (h0 : 0 ≤ x) (h1 : x < 4294967296) (hk : k < 32) : bits .and .i64 x ((2 : Int) ^ k) = if x / (2 : Int) ^ k % 2 = 1 then (2 : Int) ^ k else 0 := by
  obtain ⟨a, rfl⟩ := Int.eq_ofNat_of_zero_le h0
  show IntKind.i64.wrap ((BitVec.ofInt 64 (a : Int) &&& BitVec.ofInt 64 ((2 : Int) ^ k)).toNat : Int) = _
  have e1 : ((2 : Int) ^ k) = ((2 ^ k : Nat) : Int) := by simp
  have hp : 2 ^ k ≤ 2 ^ 31 := Nat.pow_le_pow_right (by omega) (by omega)
  rw [e1, BitVec.ofInt_natCast, BitVec.ofInt_natCast, BitVec.toNat_and, BitVec.toNat_ofNat, BitVec.toNat_ofNat, Nat.mod_eq_of_lt (by omega), Nat.mod_eq_of_lt (by omega), nat_and_pow]
  have e2 : ((a : Int) / ((2 ^ k : Nat) : Int) % 2 = 1) ↔ (a / 2 ^ k % 2 = 1) := by
    rw [← Int.natCast_ediv]
    omega
  generalize 2 ^ k = P at *
  clear e1
  by_cases h : a / P % 2 = 1
  · rw [if_pos (e2.2 h)]
    rw [if_pos h, IntKind.wrap_i64]; omega
  · rw [if_neg (fun e => h (e2.1 e))]
    rw [if_neg h, IntKind.wrap_i64]; omega

theorem and_b1 {x : Int} (h0 : 0 ≤ x) (h1 : x < 4294967296) : (Has8 x 1 → bits .and .i64 x 1 = 1) ∧ (¬ Has8 x 1 → bits .and .i64 x 1 = 0) := by
  have h := and_pow x 0 h0 h1 (by omega)
  simp only [Int.reducePow] at h
  unfold Has8
  exact ⟨fun e => by rw [h, if_pos e], fun e => by rw [h, if_neg e]⟩

theorem and_b2 {x : Int} (h0 : 0 ≤ x) (h1 : x < 4294967296) : (Has8 x 2 → bits .and .i64 x 2 = 2) ∧ (¬ Has8 x 2 → bits .and .i64 x 2 = 0) := by
  have h := and_pow x 1 h0 h1 (by omega)
  simp only [Int.reducePow] at h
  unfold Has8
  exact ⟨fun e => by rw [h, if_pos e], fun e => by rw [h, if_neg e]⟩

theorem and_b8 {x : Int} (h0 : 0 ≤ x) (h1 : x < 4294967296) : (Has8 x 8 → bits .and .i64 x 8 = 8) ∧ (¬ Has8 x 8 → bits .and .i64 x 8 = 0) := by
  have h := and_pow x 3 h0 h1 (by omega)
  simp only [Int.reducePow] at h
  unfold Has8
  exact ⟨fun e => by rw [h, if_pos e], fun e => by rw [h, if_neg e]⟩

theorem and_b32 {x : Int} (h0 : 0 ≤ x) (h1 : x < 4294967296) : (Has8 x 32 → bits .and .i64 x 32 = 32) ∧ (¬ Has8 x 32 → bits .and .i64 x 32 = 0) := by
  have h := and_pow x 5 h0 h1 (by omega)
  simp only [Int.reducePow] at h
  unfold Has8
  exact ⟨fun e => by rw [h, if_pos e], fun e => by rw [h, if_neg e]⟩

theorem and_b64 {x : Int} (h0 : 0 ≤ x) (h1 : x < 4294967296) : (Has8 x 64 → bits .and .i64 x 64 = 64) ∧ (¬ Has8 x 64 → bits .and .i64 x 64 = 0) := by
  have h := and_pow x 6 h0 h1 (by omega)
  simp only [Int.reducePow] at h
  unfold Has8
  exact ⟨fun e => by rw [h, if_pos e], fun e => by rw [h, if_neg e]⟩

theorem and_b128 {x : Int} (h0 : 0 ≤ x) (h1 : x < 4294967296) : (Has8 x 128 → bits .and .i64 x 128 = 128) ∧ (¬ Has8 x 128 → bits .and .i64 x 128 = 0) := by
  have h := and_pow x 7 h0 h1 (by omega)
  simp only [Int.reducePow] at h
  unfold Has8
  exact ⟨fun e => by rw [h, if_pos e], fun e => by rw [h, if_neg e]⟩

theorem and_b256 {x : Int} (h0 : 0 ≤ x) (h1 : x < 4294967296) : (Has8 x 256 → bits .and .i64 x 256 = 256) ∧ (¬ Has8 x 256 → bits .and .i64 x 256 = 0) := by
  have h := and_pow x 8 h0 h1 (by omega)
  simp only [Int.reducePow] at h
  unfold Has8
  exact ⟨fun e => by rw [h, if_pos e], fun e => by rw [h, if_neg e]⟩

set_option maxHeartbeats 4000000 in
theorem co_msize (fl : Int) (w : World) (h0 : 0 ≤ fl) (h1 : fl < 65536) :
    Calls Try.prog 69 #[.int .i64 fl] w fun e w' => e = .returned (.int .i64 (nm8 fl)) ∧ w' = w := by
  have b8 := and_b8 h0 (show fl < 4294967296 by omega)
  have b64 := and_b64 h0 (show fl < 4294967296 by omega)
  have b128 := and_b128 h0 (show fl < 4294967296 by omega)
  by_cases c8 : Has8 fl 8
  · have E := Lib.hid (show nm8 fl = 1 by unfold nm8; rw [if_pos c8])
    have d8 := b8.1 c8
    clear b8 b64 b128 h0 h1 c8
    go_enter Try.func69, Try.ntmps69
    go_wp2_with fail
    go_ret
    rw [E.out]
    exact ⟨rfl, rfl⟩
  · have d8 := b8.2 c8
    by_cases c64 : Has8 fl 64
    · have E := Lib.hid (show nm8 fl = 2 by unfold nm8; rw [if_neg c8, if_pos c64])
      have d64 := b64.1 c64
      clear b8 b64 b128 h0 h1 c8 c64
      go_enter Try.func69, Try.ntmps69
      go_wp2_with fail
      go_ret
      rw [E.out]
      exact ⟨rfl, rfl⟩
    · have d64 := b64.2 c64
      by_cases c128 : Has8 fl 128
      · have E := Lib.hid (show nm8 fl = 4 by unfold nm8; rw [if_neg c8, if_neg c64, if_pos c128])
        have d128 := b128.1 c128
        clear b8 b64 b128 h0 h1 c8 c64 c128
        go_enter Try.func69, Try.ntmps69
        go_wp2_with fail
        go_ret
        rw [E.out]
        exact ⟨rfl, rfl⟩
      · have E := Lib.hid (show nm8 fl = 0 by unfold nm8; rw [if_neg c8, if_neg c64, if_neg c128])
        have d128 := b128.2 c128
        clear b8 b64 b128 h0 h1 c8 c64 c128
        go_enter Try.func69, Try.ntmps69
        go_wp2_with fail
        go_ret
        rw [E.out]
        exact ⟨rfl, rfl⟩
def outB (v : Int) : Bool := !decide (Sh v)
set_option maxHeartbeats 4000000 in
theorem rf_short8 (v : Int) (w : World) : Calls Try.prog 28 #[.int .i64 v] w fun e w' => e = .returned (.bool (decide (Sh v))) ∧ w' = w := by
  by_cases h1 : -32768 ≤ v
  · by_cases h2 : v ≤ 32767
    · have E := Lib.hid (show decide (Sh v) = true from decide_eq_true (by unfold Sh; omega))
      have d1 : decide (-32768 ≤ v) = true := by simpa using h1
      have d2 : decide (v ≤ 32767) = true := by simpa using h2
      clear h1 h2
      go_enter Try.func28, Try.ntmps28
      go_wp2_with fail
      go_ret
      rw [E.out]
      exact ⟨by first | rfl | simp, rfl⟩
    · have E := Lib.hid (show decide (Sh v) = false from decide_eq_false (by unfold Sh; omega))
      have d1 : decide (-32768 ≤ v) = true := by simpa using h1
      have d2 : decide (v ≤ 32767) = false := by simpa using h2
      clear h1 h2
      go_enter Try.func28, Try.ntmps28
      go_wp2_with fail
      go_ret
      rw [E.out]
      exact ⟨by first | rfl | simp, rfl⟩
  · have E := Lib.hid (show decide (Sh v) = false from decide_eq_false (by unfold Sh; omega))
    have d1 : decide (-32768 ≤ v) = false := by simpa using h1
    clear h1
    go_enter Try.func28, Try.ntmps28
    go_wp2_with fail
    go_ret
    rw [E.out]
    exact ⟨by first | rfl | simp, rfl⟩
set_option maxHeartbeats 4000000 in
theorem rf_has8 (x b : Int) (w : World) (h0 : 0 ≤ x) (h1 : x < 65536) (hb : 1 ≤ b ∧ b ≤ 256) : Calls Try.prog 51 #[.int .i64 x, .int .i64 b] w fun e w' => e = .returned (.bool (decide (Has8 x b))) ∧ w' = w := by
  have hq : Int.tdiv x b = x / b := Int.tdiv_eq_ediv_of_nonneg h0
  have hq0 : 0 ≤ x / b := Int.ediv_nonneg h0 (by omega)
  have hq1 : x / b ≤ x := Int.ediv_le_self _ h0
  have hm : Int.tmod (x / b) 2 = x / b % 2 := Int.tmod_eq_emod_of_nonneg hq0
  have E : decide (Has8 x b) = (x / b % 2 == 1) := by unfold Has8; by_cases h : x / b % 2 = 1 <;> simp [h]
  have hne : b ≠ 0 := by omega
  have hw : IntKind.i64.wrap (x / b) = x / b := by rw [IntKind.wrap_i64]; omega
  have hw' : IntKind.i64.wrap (x / b % 2) = x / b % 2 := by rw [IntKind.wrap_i64]; omega
  rw [E]
  clear E h1
  go_enter Try.func51, Try.ntmps51
  go_wp2_with fail
  go_ret
  exact ⟨by first | rfl | simp, rfl⟩
end Go.Proofs.Ytcjjcjpkmjbfkaa

/-
  A region that stores into one own block while all else stays ('sx_'); rows of one and of two whole numbers.
-/
namespace Go.Proofs.Ytcjjcjpkmjbfkaa
open Go.RowKit
set_option linter.unusedVariables false

theorem sx_start {r m : Nat} {w w0 : World} (hS : Since w w0) (h : ∀ o, o < m → (w0.cell? ⟨r, o, none⟩).isSome = true) : (∀ b o, b < w0.heap.size → b ≠ r → w0.cell? ⟨b, o, none⟩ = w0.cell? ⟨b, o, none⟩) ∧ (∀ b o, b < w0.heap.size → w0.frozen? ⟨b, o, none⟩ = w0.frozen? ⟨b, o, none⟩) ∧ (∀ k, k < w0.heap.size → k < w0.heap.size) ∧ Since w w0 ∧ (∀ o, o < m → w0.cell? ⟨r, o, none⟩ = some (cellD w0 r o)) :=
  ⟨fun _ _ _ _ => rfl, fun _ _ _ => rfl, fun _ h => h, hS, fun o ho => cellD_of (h o ho)⟩
theorem sx_step {r m : Nat} {w w0 w1 w2 : World} (hr : r < w0.heap.size) (h : (∀ b o, b < w0.heap.size → b ≠ r → w1.cell? ⟨b, o, none⟩ = w0.cell? ⟨b, o, none⟩) ∧ (∀ b o, b < w0.heap.size → w1.frozen? ⟨b, o, none⟩ = w0.frozen? ⟨b, o, none⟩) ∧ (∀ k, k < w0.heap.size → k < w1.heap.size) ∧ Since w w1 ∧ (∀ o, o < m → w1.cell? ⟨r, o, none⟩ = some (cellD w1 r o))) (k : Since w1 w2) :
    (∀ b o, b < w0.heap.size → b ≠ r → w2.cell? ⟨b, o, none⟩ = w0.cell? ⟨b, o, none⟩) ∧ (∀ b o, b < w0.heap.size → w2.frozen? ⟨b, o, none⟩ = w0.frozen? ⟨b, o, none⟩) ∧ (∀ k, k < w0.heap.size → k < w2.heap.size) ∧ Since w w2 ∧ (∀ o, o < m → w2.cell? ⟨r, o, none⟩ = some (cellD w2 r o)) := by
  obtain ⟨h1, h2, h3, h4, h5⟩ := h
  exact ⟨fun b o hb hne => (k.1 b o (h3 b hb)).trans (h1 b o hb hne), fun b o hb => (k.2.1 b o (h3 b hb)).trans (h2 b o hb), fun j hj => k.2.2.1 j (h3 j hj), h4.trans k, fun o ho => cellD_of (by rw [k.1 r o (h3 r hr), h5 o ho]; rfl)⟩
theorem sx_set {r m : Nat} {w w0 w1 : World} (hr : w.heap.size ≤ r) (h : (∀ b o, b < w0.heap.size → b ≠ r → w1.cell? ⟨b, o, none⟩ = w0.cell? ⟨b, o, none⟩) ∧ (∀ b o, b < w0.heap.size → w1.frozen? ⟨b, o, none⟩ = w0.frozen? ⟨b, o, none⟩) ∧ (∀ k, k < w0.heap.size → k < w1.heap.size) ∧ Since w w1 ∧ (∀ o, o < m → w1.cell? ⟨r, o, none⟩ = some (cellD w1 r o))) (j : Nat) (v : Value) :
    (∀ b o, b < w0.heap.size → b ≠ r → (w1.setCell ⟨r, j, none⟩ v).cell? ⟨b, o, none⟩ = w0.cell? ⟨b, o, none⟩) ∧ (∀ b o, b < w0.heap.size → (w1.setCell ⟨r, j, none⟩ v).frozen? ⟨b, o, none⟩ = w0.frozen? ⟨b, o, none⟩) ∧ (∀ k, k < w0.heap.size → k < (w1.setCell ⟨r, j, none⟩ v).heap.size) ∧ Since w (w1.setCell ⟨r, j, none⟩ v) ∧ (∀ o, o < m → (w1.setCell ⟨r, j, none⟩ v).cell? ⟨r, o, none⟩ = some (cellD (w1.setCell ⟨r, j, none⟩ v) r o)) := by
  obtain ⟨h1, h2, h3, h4, h5⟩ := h
  refine ⟨fun b o hb hne => ?_, fun b o hb => (World.frozen?_setCell _ _ _ _).trans (h2 b o hb), fun k hk => by simpa [World.setCell] using h3 k hk, h4.setCell hr _, fun o ho => ?_⟩
  · rw [cell_set, if_neg (by omega)]; exact h1 b o hb hne
  · refine cellD_of ?_
    rw [cell_set, h5 o ho]
    split <;> rfl

def Pf (x y : Int) (j : Nat) : Value := if j = 0 then .int .i64 x else .int .i64 y
theorem prow (w : World) (b : Nat) (hb : b = w.heap.size) (t : TypeId) (x y : Int) : Row (w.alloc (.cells #[.int .i64 x, .int .i64 y] t)) b 2 (Pf x y) := by
  subst hb
  refine Row.of_cells fun j hj => ?_
  have h : j = 0 ∨ j = 1 := by omega
  rcases h with rfl | rfl <;> rfl
theorem pput {w : World} {b : Nat} {u v : Int} (h : Row w b 2 (Pf u v)) (x y : Int) : Row ((w.setCell ⟨b, 0, none⟩ (.int .i64 x)).setCell ⟨b, 1, none⟩ (.int .i64 y)) b 2 (Pf x y) := by
  refine ((h.set 0 _).set 1 _).congr fun j hj => ?_
  have hh : j = 0 ∨ j = 1 := by omega
  rcases hh with rfl | rfl <;> rfl
theorem pcells {w : World} {b : Nat} {x y : Int} (h : Row w b 2 (Pf x y)) : w.cell? ⟨b, 0, none⟩ = some (.int .i64 x) ∧ w.cell? ⟨b, 1, none⟩ = some (.int .i64 y) ∧ b < w.heap.size := ⟨h.1 0 (by omega), h.1 1 (by omega), h.2.2⟩
theorem pput0 {w : World} {b : Nat} (h : Row w b 2 (Pf 0 0)) (x y : Int) : Row ((w.setCell ⟨b, 0, none⟩ (.int .i64 x)).setCell ⟨b, 1, none⟩ (.int .i64 y)) b 2 (Pf x y) := pput h x y
def Of (v : Value) (_ : Nat) : Value := v
theorem orow (w : World) (b : Nat) (hb : b = w.heap.size) (t : TypeId) (v : Value) : Row (w.alloc (.cells #[v] t)) b 1 (Of v) := by
  subst hb
  refine Row.of_cells fun j hj => ?_
  obtain rfl : j = 0 := by omega
  rfl
theorem oput {w : World} {b : Nat} {u : Value} (h : Row w b 1 (Of u)) (v : Value) : Row (w.setCell ⟨b, 0, none⟩ v) b 1 (Of v) := by
  refine (h.set 0 _).congr fun j hj => ?_
  obtain rfl : j = 0 := by omega
  rfl
theorem oput0 {w : World} {b : Nat} (h : Row w b 1 (Of (.int .i64 0))) (v : Value) : Row (w.setCell ⟨b, 0, none⟩ v) b 1 (Of v) := oput h v
theorem ocell {w : World} {b : Nat} {v : Value} (h : Row w b 1 (Of v)) : w.cell? ⟨b, 0, none⟩ = some v ∧ b < w.heap.size := ⟨h.1 0 (by omega), h.2.2⟩
/-- A row's cells as a range. -/
theorem row_range {w : World} {b n : Nat} {f : Nat → Value} (h : Row w b n f) (cs : List Value) (he : ∀ j v, cs[j]? = some v → j < n ∧ v = f j) : w.rangeAt b 0 cs := fun j v hv => by
  obtain ⟨h1, rfl⟩ := he j v hv
  rw [Nat.zero_add]
  exact h.1 j h1
section
variable {P : Program} {fn : Func} {R : Ending → World → Prop} {a : Act} {w : World}
/-- The end of a function whose one result is a struct in memory. -/
theorem ret_agg {p ty : Nat} {b : Nat} {cs : List Value} {d : TypeDesc} (hf : fn.results = #[.cell p ty]) (hp : a.tmps.getD p undef = .pointer (some ⟨b, 0, none⟩)) (hc : w.rangeAt b 0 cs)
    (hu : P.underlying ty = some d) (hd : d.isRow = true) (hi : (P.info? ty).map (·.size) = some cs.length) (hdf : a.defers = []) (hR : R (.returned (.agg cs.toArray)) w) : bodyPost P fn R .ret a w := by
  refine bodyPost_ret (v := .agg cs.toArray) ?_ hdf hR
  simp only [results, hf]
  have hl := run_loadVar_mid (P := P) w b 0 ty cs d hc hu hd hi
  have hp' : a.tmps[p]?.getD undef = .pointer (some ⟨b, 0, none⟩) := by simpa using hp
  simp [hp', asAddr, hl]
/-- .. and a number behind it. -/
theorem ret_agg_tmp {p q ty : Nat} {b : Nat} {cs : List Value} {d : TypeDesc} {x : Value} (hf : fn.results = #[.cell p ty, .tmp q]) (hp : a.tmps.getD p undef = .pointer (some ⟨b, 0, none⟩)) (hc : w.rangeAt b 0 cs)
    (hu : P.underlying ty = some d) (hd : d.isRow = true) (hi : (P.info? ty).map (·.size) = some cs.length) (hq : a.tmps.getD q undef = x) (hdf : a.defers = []) (hR : R (.returned (.tuple #[.agg cs.toArray, x])) w) : bodyPost P fn R .ret a w := by
  refine bodyPost_ret (v := .tuple #[.agg cs.toArray, x]) ?_ hdf hR
  simp only [results, hf]
  have hl := run_loadVar_mid (P := P) w b 0 ty cs d hc hu hd hi
  have hp' : a.tmps[p]?.getD undef = .pointer (some ⟨b, 0, none⟩) := by simpa using hp
  have hq' : a.tmps[q]?.getD undef = x := by simpa using hq
  simp [hp', asAddr, hl, hq']
end
end Go.Proofs.Ytcjjcjpkmjbfkaa

/-
  Layer 2: 'Cut', walked, program and reference.
-/
namespace Go.Proofs.Ytcjjcjpkmjbfkaa
open Go.RowKit
set_option linter.unusedVariables false

def cutE (n : Nat) (i k : Int) : Int := if 0 ≤ k ∧ Fits n i k then 0 else 3
def cutN (n : Nat) (i k : Int) : Nat := if 0 ≤ k ∧ Fits n i k then k.toNat else 0
theorem cut_no {n : Nat} {i k : Int} (h : ¬ (0 ≤ k ∧ Fits n i k)) : cutE n i k = 3 ∧ cutN n i k = 0 := by simp [cutE, cutN, h]
theorem cut_yes {n : Nat} {i k : Int} (h : 0 ≤ k ∧ Fits n i k) : cutE n i k = 0 ∧ cutN n i k = k.toNat := by simp [cutE, cutN, h]
/-- What a cut leaves. -/
def CutPost (f : Nat → Int) (n : Nat) (i k : Int) (w : World) (e : Ending) (w' : World) : Prop := ∃ A' m cap, e = .returned (.tuple #[.slice A' m cap, .int .i64 (cutE n i k)]) ∧ m = cutN n i k ∧ m ≤ cap ∧ Nw w' w.heap.size A' m (U8 (fun j => f (i.toNat + j))) ∧ Since w w'

set_option maxRecDepth 100000 in
set_option maxHeartbeats 4000000 in
theorem be_cut (A : Option Addr) (n c : Nat) (f : Nat → Int) (i k : Int) (w : World) (h : Rd w w.heap.size A n (U8 f)) (hi : In64 i) (hk : In64 k) (hn : n ≤ 140737488355328) (hnc : n ≤ c) :
    Calls Try.prog 56 #[.slice A n c, .int .i64 i, .int .i64 k] w (CutPost f n i k w) := by
  obtain ⟨i0, hi0, hz0, hz1, hz2⟩ := info_parts Try.info_u8
  by_cases h0 : k < 0
  · have d1 : decide (k < 0) = true := by simpa using h0
    obtain ⟨e1, e2⟩ := cut_no (n := n) (i := i) (k := k) (by omega)
    have E1 := Lib.hid e1; have E2 := Lib.hid e2; clear e1 e2 h h0
    go_enter Try.func56, Try.ntmps56
    go_wp2
    go_ret2
    exact ⟨none, 0, 0, by rw [E1.out]; rfl, E2.out.symm, Nat.le_refl _, Nw.zero, Since.refl _⟩
  have d0 : decide (k < 0) = false := by simpa using h0
  by_cases h3 : Fits n i k
  · have d3 : decide (Fits n i k) = true := by simpa using h3
    obtain ⟨p, rfl⟩ : ∃ p : Nat, i = p := ⟨i.toNat, by have := h3.1; omega⟩
    obtain ⟨m, rfl⟩ : ∃ m : Nat, k = m := ⟨k.toNat, by omega⟩
    have h4 : p + m ≤ n := by have := h3.2.2; omega
    obtain ⟨e1, e2⟩ := cut_yes (n := n) (i := p) (k := m) ⟨by omega, h3⟩
    have E1 := Lib.hid e1; have E2 := Lib.hid e2; clear e1 e2 h0
    have hp : (p : Int) ≤ n := by omega
    have hmn : (m : Int) ≤ n := by omega
    have b1 : 1 * m ≤ 281474976710656 := by omega
    have b2 : m ≤ maxLen := by simp only [maxLen]; omega
    have hD := h.drop (k := p) (cap := c) (m := n - p) (by omega) hnc
    have hmin : m = Nat.min (n - p) m := (Nat.min_eq_right (by omega)).symm
    have HM := Lib.hid hmin; clear hmin
    clear h3 h
    go_enter Try.func56, Try.ntmps56
    go_wp2_with (first | (go_at_call 66; refine (be_holds _ n c p m w hi hk hn).mono ?_; rintro e w2 ⟨rfl, rfl⟩) | (at_make; refine wpList_make_tab _ (by rfl) _ _ _ (by rfl) 5 i0 .u8 1 Try.underlying25 hi0 hz0 hz1 hz2 .i64 .i64 m (by rfl) (by rfl) b1 b2 ?_; intro w1 hown1 hS1; have hall1 := All.of_own hown1; have hA1 := hD.since (Nat.le_refl _) hS1; clear hown1) | (refine wpList_copy_all (by rfl) _ _ _ _ (by rfl) 5 Try.underlying25 Try.size_u8' _ _ m m _ _ (by rfl) (by rfl) w2.heap.size 0 m m 5 _ _ hall1 w2.heap.size hA1 HM.out (fun _ => rfl) (by omega) tab_ones w2 hS1 (Nat.le_refl _) ?_; intro w3 hall3 hS3; clear hall1 hA1 hS1))
    all_goals
      go_ret2
      refine ⟨_, m, m, by rw [E1.out]; rfl, E2.out.symm, Nat.le_refl _, fun _ => ⟨_, rfl, Nat.le_refl _, (hall3.congr (fun j hj => ?_)).row⟩, hS3⟩
      simp only [U8, IntRow, Nat.zero_le, true_and, Nat.zero_add, Nat.sub_zero, if_pos hj]
      rfl
  · have d3 : decide (Fits n i k) = false := by simpa using h3
    obtain ⟨e1, e2⟩ := cut_no (n := n) (i := i) (k := k) (by simp [h3])
    have E1 := Lib.hid e1; have E2 := Lib.hid e2; clear e1 e2 h h0 h3
    go_enter Try.func56, Try.ntmps56
    go_wp2_with (go_at_call 66; refine (be_holds _ n c i k w hi hk hn).mono ?_; rintro e w2 ⟨rfl, rfl⟩)
    go_ret2
    exact ⟨none, 0, 0, by rw [E1.out]; rfl, E2.out.symm, Nat.le_refl _, Nw.zero, Since.refl _⟩

set_option maxRecDepth 100000 in
set_option maxHeartbeats 4000000 in
theorem ref_cut (A : Option Addr) (n c : Nat) (f : Nat → Int) (i k : Int) (w : World) (h : Rd w w.heap.size A n (U8 f)) (hi : In64 i) (hk : In64 k) (hn : n ≤ 140737488355328) (hnc : n ≤ c) :
    Calls Try.prog 52 #[.slice A n c, .int .i64 i, .int .i64 k] w (CutPost f n i k w) := by
  by_cases h3 : 0 ≤ k ∧ Fits n i k
  · have d3 : decide (0 ≤ k ∧ Fits n i k) = true := by simpa using h3
    obtain ⟨e1, e2⟩ := cut_yes (n := n) (i := i) (k := k) h3
    obtain ⟨h0, h3⟩ := h3
    obtain ⟨p, rfl⟩ : ∃ p : Nat, i = p := ⟨i.toNat, by have := h3.1; omega⟩
    obtain ⟨m, rfl⟩ : ∃ m : Nat, k = m := ⟨k.toNat, by omega⟩
    have d4 : decide (Fits n (p : Int) (m : Int)) = true := by simpa using h3
    have h4 : p + m ≤ n := by have := h3.2.2; omega
    have E1 := Lib.hid e1; have E2 := Lib.hid e2; clear e1 e2 h0
    have hp : (p : Int) ≤ n := by omega
    have hmn : (m : Int) ≤ n := by omega
    have hpc : (p : Int) + m ≤ c := by omega
    have hD := h.drop (k := p) (cap := c) (m := m) (by omega) hnc
    clear h3 h
    go_enter Try.func52, Try.ntmps52
    go_wp2_with (first | (go_at_call 65; refine (ref_there _ n c p m w hi hk hn).mono ?_; rintro e w2 ⟨rfl, rfl⟩) | (go_at_call 9; refine (ref_copy _ m _ (fun j => f (p + j)) w2 hD (by omega)).mono ?_; rintro e w3 ⟨g, cap, rfl, hown, hS⟩))
    all_goals
      go_ret2
      exact ⟨_, m, cap, by rw [E1.out]; rfl, E2.out.symm, hown.cap, fun _ => ⟨_, rfl, hown.base, hown.row⟩, hS⟩
  · have d3 : decide (0 ≤ k ∧ Fits n i k) = false := by simpa using h3
    obtain ⟨e1, e2⟩ := cut_no h3
    have E1 := Lib.hid e1; have E2 := Lib.hid e2; clear e1 e2 h h3
    go_enter Try.func52, Try.ntmps52
    go_wp2_with (go_at_call 65; refine (ref_there _ n c i k w hi hk hn).mono ?_; rintro e w2 ⟨rfl, rfl⟩)
    go_ret2
    exact ⟨none, 0, 0, by rw [E1.out]; rfl, E2.out.symm, Nat.le_refl _, Nw.zero, Since.refl _⟩

end Go.Proofs.Ytcjjcjpkmjbfkaa

/-
  Layer 8: readMatrix, readCode, walked.
-/
namespace Go.Proofs.Ytcjjcjpkmjbfkaa
open Go.RowKit Go.ChangeShapes Go.WideShapes Go.Deep
set_option linter.unusedVariables false

def matA (f : Nat → Int) (p k : Nat) : List Value := [.int .i64 (if k = 0 then 16384 else s2 f p), .int .i64 (if k = 4 then s2 f (p + 2) else 0), .int .i64 (if k = 4 then s2 f (p + 4) else 0),
  .int .i64 (if k = 0 then 16384 else if k = 1 then s2 f p else if k = 2 then s2 f (p + 2) else s2 f (p + 6))]
def mtF (f : Nat → Int) (p k : Nat) (j : Nat) : Value := .int .i64 (if j < k then s2 f (p + 2 * j) else 0)
theorem mtF_next (f : Nat → Int) (p j t : Nat) : (if t = j then Value.int .i64 (s2 f (p + 2 * j)) else mtF f p j t) = mtF f p (j + 1) t := by
  unfold mtF
  by_cases e : t = j
  · subst e; rw [if_pos rfl, if_pos (by omega)]
  · rw [if_neg e]
    by_cases h : t < j
    · rw [if_pos h, if_pos (by omega)]
    · rw [if_neg h, if_neg (by omega)]
theorem row4 {w : World} {b : Nat} {F : Nat → Value} (h : Row w b 4 F) : w.cell? ⟨b, 0, none⟩ = some (F 0) ∧ w.cell? ⟨b, 1, none⟩ = some (F 1) ∧ w.cell? ⟨b, 2, none⟩ = some (F 2) ∧ w.cell? ⟨b, 3, none⟩ = some (F 3) ∧ b < w.heap.size :=
  ⟨h.1 0 (by omega), h.1 1 (by omega), h.1 2 (by omega), h.1 3 (by omega), h.2.2⟩
theorem zero4 (w : World) (b : Nat) (hb : b = w.heap.size) (t : TypeId) : Row (w.alloc (.cells #[.int .i64 0, .int .i64 0, .int .i64 0, .int .i64 0] t)) b 4 (fun _ => .int .i64 0) := by
  subst hb
  refine Row.of_cells fun j hj => ?_
  have h : j = 0 ∨ j = 1 ∨ j = 2 ∨ j = 3 := by omega
  rcases h with rfl | rfl | rfl | rfl <;> rfl

set_option maxRecDepth 100000 in
set_option maxHeartbeats 4000000 in
theorem co_rmat0 (A : Option Addr) (n c : Nat) (f : Nat → Int) (p : Nat) (x : Int) (w : World) (h : Rd w w.heap.size A n (U8 f)) (hf : ∀ j, j < n → 0 ≤ f j ∧ f j ≤ 255) (hx : x = p) (hp : p + 2 * 0 ≤ n) (hn : n ≤ 140737488355328) :
    Calls Try.prog 70 #[.slice A n c, .int .i64 x, .int .i64 0] w fun e w' => e = .returned (.agg (matA f p 0).toArray) ∧ Since w w' := by
  have hpn : (p : Int) ≤ 140737488355328 := by omega
  have HF := Lib.hid hf
  clear hf
  go_enter Try.func70, Try.ntmps70
  go_wp2_with fail
  go_loopw [10] (fun y wr => ∃ j : Nat, j ≤ 0 ∧ y = .int .i64 (j : Int) ∧ Since w wr ∧ Row wr w.heap.size 4 (fun _ => .int .i64 0) ∧ Row wr (w.heap.size + 1) 4 (mtF f p j)) (fun y _ => 0 - (intOf y).toNat)
  case atStart =>
    refine ⟨0, by omega, rfl, by (repeat (first | with_reducible (exact Since.refl _) | with_reducible assumption | with_reducible (refine Since.drew ?_) | with_reducible (refine Since.drewN ?_ _) | with_reducible (refine Since.alloc ?_ _) | (with_reducible (refine Since.setCell ?_ ?_ _); rotate_left; focus (first | (simp; done) | (simp; omega) | omega)) | (with_reducible (refine Since.trans ?_ (by with_reducible assumption))))), ?_, ?_⟩
    · exact (zero4 w _ rfl _).alloc _
    · exact (zero4 (w.alloc _) _ (by simp) _)
  case round =>
    obtain ⟨j, hj, rfl, hS, hR0, hR⟩ := hrel
    by_cases hjm : j < 0
    · first
      | exact absurd hjm (by omega)
      | have hjm' : (j : Int) < 0 := by omega
        have hcell := hR.1 j (by omega)
        have hfr := hR.2.1 j
        have hlt := hR.2.2
        have hC := s_in A n c f (p + 2 * j) 2 (x + 2 * (j : Int)) 2 wr (h.on hS) HF.out (by omega) rfl (by omega) (by omega) hn
        have e0 : sgn 2 (numAt f (p + 2 * j) 2) = s2 f (p + 2 * j) := rfl
        rw [e0] at hC
        generalize hv : s2 f (p + 2 * j) = v at *
        have HV := Lib.hid hv
        clear hv e0 h hp
        subst hx
        go_wp2_with (go_at_call 53; (with_reducible refine hC.mono ?_); rintro e w2 ⟨rfl, rfl⟩)
        go_roundw
        case rel =>
          refine ⟨j + 1, by omega, by go_num, by (repeat (first | with_reducible (exact Since.refl _) | with_reducible assumption | with_reducible (refine Since.drew ?_) | with_reducible (refine Since.drewN ?_ _) | with_reducible (refine Since.alloc ?_ _) | (with_reducible (refine Since.setCell ?_ ?_ _); rotate_left; focus (first | (simp; done) | (simp; omega) | omega)) | (with_reducible (refine Since.trans ?_ (by with_reducible assumption))))), hR0.far (by omega) _ _, (hR.set j _).congr (fun t ht => ?_)⟩
          rw [← HV.out]
          exact mtF_next f p j t
        case measure => simp [intOf]; omega
    · obtain rfl : j = 0 := by omega
      obtain ⟨c0, c1, c2, c3, hlt⟩ := row4 hR
      obtain ⟨z0, z1, z2, z3, hlt0⟩ := row4 hR0
      have f0 := hR0.2.1 0
      have f1 := hR0.2.1 1
      have f2 := hR0.2.1 2
      have f3 := hR0.2.1 3
      have e0 : mtF f p 0 0 = .int .i64 (if 0 < 0 then s2 f p else 0) := rfl
      have e1 : mtF f p 0 1 = .int .i64 (if 1 < 0 then s2 f (p + 2) else 0) := rfl
      have e2 : mtF f p 0 2 = .int .i64 (if 2 < 0 then s2 f (p + 4) else 0) := rfl
      have e3 : mtF f p 0 3 = .int .i64 (if 3 < 0 then s2 f (p + 6) else 0) := rfl
      rw [e0] at c0
      rw [e1] at c1
      rw [e2] at c2
      rw [e3] at c3
      have hE := (show matA f p 0 = [.int .i64 (if 0 = 0 then 16384 else s2 f p), .int .i64 (if 0 = 4 then s2 f (p + 2) else 0), .int .i64 (if 0 = 4 then s2 f (p + 4) else 0),
  .int .i64 (if 0 = 0 then 16384 else if 0 = 1 then s2 f p else if 0 = 2 then s2 f (p + 2) else s2 f (p + 6))] from rfl)
      generalize s2 f p = v0 at *
      generalize s2 f (p + 2) = v1 at *
      generalize s2 f (p + 4) = v2 at *
      generalize s2 f (p + 6) = v3 at *
      simp at c0 c1 c2 c3 hE
      have E := Lib.hid hE
      clear e0 e1 e2 e3 h hE
      go_wp2_with fail
      refine ret_agg rfl rfl (cs := matA f p 0) ?_ Try.underlying42 rfl (by kernel_rfl) rfl ?_
      rotate_left
      · exact ⟨rfl, by (repeat (first | with_reducible (exact Since.refl _) | with_reducible assumption | with_reducible (refine Since.drew ?_) | with_reducible (refine Since.drewN ?_ _) | with_reducible (refine Since.alloc ?_ _) | (with_reducible (refine Since.setCell ?_ ?_ _); rotate_left; focus (first | (simp; done) | (simp; omega) | omega)) | (with_reducible (refine Since.trans ?_ (by with_reducible assumption)))))⟩
      · intro j v hv
        rw [E.out] at hv
        have hj : j = 0 ∨ j = 1 ∨ j = 2 ∨ j = 3 := by
          have : j < 4 := by
            rcases Nat.lt_or_ge j 4 with h | h
            · exact h
            · rw [List.getElem?_eq_none (by simpa using h)] at hv; cases hv
          omega
        rcases hj with rfl | rfl | rfl | rfl <;> (simp at hv; subst hv; simp [go_sem, z0, z1, z2, z3])

set_option maxRecDepth 100000 in
set_option maxHeartbeats 4000000 in
theorem co_rmat1 (A : Option Addr) (n c : Nat) (f : Nat → Int) (p : Nat) (x : Int) (w : World) (h : Rd w w.heap.size A n (U8 f)) (hf : ∀ j, j < n → 0 ≤ f j ∧ f j ≤ 255) (hx : x = p) (hp : p + 2 * 1 ≤ n) (hn : n ≤ 140737488355328) :
    Calls Try.prog 70 #[.slice A n c, .int .i64 x, .int .i64 1] w fun e w' => e = .returned (.agg (matA f p 1).toArray) ∧ Since w w' := by
  have hpn : (p : Int) ≤ 140737488355328 := by omega
  have HF := Lib.hid hf
  clear hf
  go_enter Try.func70, Try.ntmps70
  go_wp2_with fail
  go_loopw [10] (fun y wr => ∃ j : Nat, j ≤ 1 ∧ y = .int .i64 (j : Int) ∧ Since w wr ∧ Row wr w.heap.size 4 (fun _ => .int .i64 0) ∧ Row wr (w.heap.size + 1) 4 (mtF f p j)) (fun y _ => 1 - (intOf y).toNat)
  case atStart =>
    refine ⟨0, by omega, rfl, by (repeat (first | with_reducible (exact Since.refl _) | with_reducible assumption | with_reducible (refine Since.drew ?_) | with_reducible (refine Since.drewN ?_ _) | with_reducible (refine Since.alloc ?_ _) | (with_reducible (refine Since.setCell ?_ ?_ _); rotate_left; focus (first | (simp; done) | (simp; omega) | omega)) | (with_reducible (refine Since.trans ?_ (by with_reducible assumption))))), ?_, ?_⟩
    · exact (zero4 w _ rfl _).alloc _
    · exact (zero4 (w.alloc _) _ (by simp) _)
  case round =>
    obtain ⟨j, hj, rfl, hS, hR0, hR⟩ := hrel
    by_cases hjm : j < 1
    · first
      | exact absurd hjm (by omega)
      | have hjm' : (j : Int) < 1 := by omega
        have hcell := hR.1 j (by omega)
        have hfr := hR.2.1 j
        have hlt := hR.2.2
        have hC := s_in A n c f (p + 2 * j) 2 (x + 2 * (j : Int)) 2 wr (h.on hS) HF.out (by omega) rfl (by omega) (by omega) hn
        have e0 : sgn 2 (numAt f (p + 2 * j) 2) = s2 f (p + 2 * j) := rfl
        rw [e0] at hC
        generalize hv : s2 f (p + 2 * j) = v at *
        have HV := Lib.hid hv
        clear hv e0 h hp
        subst hx
        go_wp2_with (go_at_call 53; (with_reducible refine hC.mono ?_); rintro e w2 ⟨rfl, rfl⟩)
        go_roundw
        case rel =>
          refine ⟨j + 1, by omega, by go_num, by (repeat (first | with_reducible (exact Since.refl _) | with_reducible assumption | with_reducible (refine Since.drew ?_) | with_reducible (refine Since.drewN ?_ _) | with_reducible (refine Since.alloc ?_ _) | (with_reducible (refine Since.setCell ?_ ?_ _); rotate_left; focus (first | (simp; done) | (simp; omega) | omega)) | (with_reducible (refine Since.trans ?_ (by with_reducible assumption))))), hR0.far (by omega) _ _, (hR.set j _).congr (fun t ht => ?_)⟩
          rw [← HV.out]
          exact mtF_next f p j t
        case measure => simp [intOf]; omega
    · obtain rfl : j = 1 := by omega
      obtain ⟨c0, c1, c2, c3, hlt⟩ := row4 hR
      obtain ⟨z0, z1, z2, z3, hlt0⟩ := row4 hR0
      have f0 := hR0.2.1 0
      have f1 := hR0.2.1 1
      have f2 := hR0.2.1 2
      have f3 := hR0.2.1 3
      have e0 : mtF f p 1 0 = .int .i64 (if 0 < 1 then s2 f p else 0) := rfl
      have e1 : mtF f p 1 1 = .int .i64 (if 1 < 1 then s2 f (p + 2) else 0) := rfl
      have e2 : mtF f p 1 2 = .int .i64 (if 2 < 1 then s2 f (p + 4) else 0) := rfl
      have e3 : mtF f p 1 3 = .int .i64 (if 3 < 1 then s2 f (p + 6) else 0) := rfl
      rw [e0] at c0
      rw [e1] at c1
      rw [e2] at c2
      rw [e3] at c3
      have hE := (show matA f p 1 = [.int .i64 (if 1 = 0 then 16384 else s2 f p), .int .i64 (if 1 = 4 then s2 f (p + 2) else 0), .int .i64 (if 1 = 4 then s2 f (p + 4) else 0),
  .int .i64 (if 1 = 0 then 16384 else if 1 = 1 then s2 f p else if 1 = 2 then s2 f (p + 2) else s2 f (p + 6))] from rfl)
      generalize s2 f p = v0 at *
      generalize s2 f (p + 2) = v1 at *
      generalize s2 f (p + 4) = v2 at *
      generalize s2 f (p + 6) = v3 at *
      simp at c0 c1 c2 c3 hE
      have E := Lib.hid hE
      clear e0 e1 e2 e3 h hE
      go_wp2_with fail
      refine ret_agg rfl rfl (cs := matA f p 1) ?_ Try.underlying42 rfl (by kernel_rfl) rfl ?_
      rotate_left
      · exact ⟨rfl, by (repeat (first | with_reducible (exact Since.refl _) | with_reducible assumption | with_reducible (refine Since.drew ?_) | with_reducible (refine Since.drewN ?_ _) | with_reducible (refine Since.alloc ?_ _) | (with_reducible (refine Since.setCell ?_ ?_ _); rotate_left; focus (first | (simp; done) | (simp; omega) | omega)) | (with_reducible (refine Since.trans ?_ (by with_reducible assumption)))))⟩
      · intro j v hv
        rw [E.out] at hv
        have hj : j = 0 ∨ j = 1 ∨ j = 2 ∨ j = 3 := by
          have : j < 4 := by
            rcases Nat.lt_or_ge j 4 with h | h
            · exact h
            · rw [List.getElem?_eq_none (by simpa using h)] at hv; cases hv
          omega
        rcases hj with rfl | rfl | rfl | rfl <;> (simp at hv; subst hv; simp [go_sem, z0, z1, z2, z3])

set_option maxRecDepth 100000 in
set_option maxHeartbeats 4000000 in
theorem co_rmat2 (A : Option Addr) (n c : Nat) (f : Nat → Int) (p : Nat) (x : Int) (w : World) (h : Rd w w.heap.size A n (U8 f)) (hf : ∀ j, j < n → 0 ≤ f j ∧ f j ≤ 255) (hx : x = p) (hp : p + 2 * 2 ≤ n) (hn : n ≤ 140737488355328) :
    Calls Try.prog 70 #[.slice A n c, .int .i64 x, .int .i64 2] w fun e w' => e = .returned (.agg (matA f p 2).toArray) ∧ Since w w' := by
  have hpn : (p : Int) ≤ 140737488355328 := by omega
  have HF := Lib.hid hf
  clear hf
  go_enter Try.func70, Try.ntmps70
  go_wp2_with fail
  go_loopw [10] (fun y wr => ∃ j : Nat, j ≤ 2 ∧ y = .int .i64 (j : Int) ∧ Since w wr ∧ Row wr w.heap.size 4 (fun _ => .int .i64 0) ∧ Row wr (w.heap.size + 1) 4 (mtF f p j)) (fun y _ => 2 - (intOf y).toNat)
  case atStart =>
    refine ⟨0, by omega, rfl, by (repeat (first | with_reducible (exact Since.refl _) | with_reducible assumption | with_reducible (refine Since.drew ?_) | with_reducible (refine Since.drewN ?_ _) | with_reducible (refine Since.alloc ?_ _) | (with_reducible (refine Since.setCell ?_ ?_ _); rotate_left; focus (first | (simp; done) | (simp; omega) | omega)) | (with_reducible (refine Since.trans ?_ (by with_reducible assumption))))), ?_, ?_⟩
    · exact (zero4 w _ rfl _).alloc _
    · exact (zero4 (w.alloc _) _ (by simp) _)
  case round =>
    obtain ⟨j, hj, rfl, hS, hR0, hR⟩ := hrel
    by_cases hjm : j < 2
    · first
      | exact absurd hjm (by omega)
      | have hjm' : (j : Int) < 2 := by omega
        have hcell := hR.1 j (by omega)
        have hfr := hR.2.1 j
        have hlt := hR.2.2
        have hC := s_in A n c f (p + 2 * j) 2 (x + 2 * (j : Int)) 2 wr (h.on hS) HF.out (by omega) rfl (by omega) (by omega) hn
        have e0 : sgn 2 (numAt f (p + 2 * j) 2) = s2 f (p + 2 * j) := rfl
        rw [e0] at hC
        generalize hv : s2 f (p + 2 * j) = v at *
        have HV := Lib.hid hv
        clear hv e0 h hp
        subst hx
        go_wp2_with (go_at_call 53; (with_reducible refine hC.mono ?_); rintro e w2 ⟨rfl, rfl⟩)
        go_roundw
        case rel =>
          refine ⟨j + 1, by omega, by go_num, by (repeat (first | with_reducible (exact Since.refl _) | with_reducible assumption | with_reducible (refine Since.drew ?_) | with_reducible (refine Since.drewN ?_ _) | with_reducible (refine Since.alloc ?_ _) | (with_reducible (refine Since.setCell ?_ ?_ _); rotate_left; focus (first | (simp; done) | (simp; omega) | omega)) | (with_reducible (refine Since.trans ?_ (by with_reducible assumption))))), hR0.far (by omega) _ _, (hR.set j _).congr (fun t ht => ?_)⟩
          rw [← HV.out]
          exact mtF_next f p j t
        case measure => simp [intOf]; omega
    · obtain rfl : j = 2 := by omega
      obtain ⟨c0, c1, c2, c3, hlt⟩ := row4 hR
      obtain ⟨z0, z1, z2, z3, hlt0⟩ := row4 hR0
      have f0 := hR0.2.1 0
      have f1 := hR0.2.1 1
      have f2 := hR0.2.1 2
      have f3 := hR0.2.1 3
      have e0 : mtF f p 2 0 = .int .i64 (if 0 < 2 then s2 f p else 0) := rfl
      have e1 : mtF f p 2 1 = .int .i64 (if 1 < 2 then s2 f (p + 2) else 0) := rfl
      have e2 : mtF f p 2 2 = .int .i64 (if 2 < 2 then s2 f (p + 4) else 0) := rfl
      have e3 : mtF f p 2 3 = .int .i64 (if 3 < 2 then s2 f (p + 6) else 0) := rfl
      rw [e0] at c0
      rw [e1] at c1
      rw [e2] at c2
      rw [e3] at c3
      have hE := (show matA f p 2 = [.int .i64 (if 2 = 0 then 16384 else s2 f p), .int .i64 (if 2 = 4 then s2 f (p + 2) else 0), .int .i64 (if 2 = 4 then s2 f (p + 4) else 0),
  .int .i64 (if 2 = 0 then 16384 else if 2 = 1 then s2 f p else if 2 = 2 then s2 f (p + 2) else s2 f (p + 6))] from rfl)
      generalize s2 f p = v0 at *
      generalize s2 f (p + 2) = v1 at *
      generalize s2 f (p + 4) = v2 at *
      generalize s2 f (p + 6) = v3 at *
      simp at c0 c1 c2 c3 hE
      have E := Lib.hid hE
      clear e0 e1 e2 e3 h hE
      go_wp2_with fail
      refine ret_agg rfl rfl (cs := matA f p 2) ?_ Try.underlying42 rfl (by kernel_rfl) rfl ?_
      rotate_left
      · exact ⟨rfl, by (repeat (first | with_reducible (exact Since.refl _) | with_reducible assumption | with_reducible (refine Since.drew ?_) | with_reducible (refine Since.drewN ?_ _) | with_reducible (refine Since.alloc ?_ _) | (with_reducible (refine Since.setCell ?_ ?_ _); rotate_left; focus (first | (simp; done) | (simp; omega) | omega)) | (with_reducible (refine Since.trans ?_ (by with_reducible assumption)))))⟩
      · intro j v hv
        rw [E.out] at hv
        have hj : j = 0 ∨ j = 1 ∨ j = 2 ∨ j = 3 := by
          have : j < 4 := by
            rcases Nat.lt_or_ge j 4 with h | h
            · exact h
            · rw [List.getElem?_eq_none (by simpa using h)] at hv; cases hv
          omega
        rcases hj with rfl | rfl | rfl | rfl <;> (simp at hv; subst hv; simp [go_sem, z0, z1, z2, z3])

set_option maxRecDepth 100000 in
set_option maxHeartbeats 4000000 in
theorem co_rmat4 (A : Option Addr) (n c : Nat) (f : Nat → Int) (p : Nat) (x : Int) (w : World) (h : Rd w w.heap.size A n (U8 f)) (hf : ∀ j, j < n → 0 ≤ f j ∧ f j ≤ 255) (hx : x = p) (hp : p + 2 * 4 ≤ n) (hn : n ≤ 140737488355328) :
    Calls Try.prog 70 #[.slice A n c, .int .i64 x, .int .i64 4] w fun e w' => e = .returned (.agg (matA f p 4).toArray) ∧ Since w w' := by
  have hpn : (p : Int) ≤ 140737488355328 := by omega
  have HF := Lib.hid hf
  clear hf
  go_enter Try.func70, Try.ntmps70
  go_wp2_with fail
  go_loopw [10] (fun y wr => ∃ j : Nat, j ≤ 4 ∧ y = .int .i64 (j : Int) ∧ Since w wr ∧ Row wr w.heap.size 4 (fun _ => .int .i64 0) ∧ Row wr (w.heap.size + 1) 4 (mtF f p j)) (fun y _ => 4 - (intOf y).toNat)
  case atStart =>
    refine ⟨0, by omega, rfl, by (repeat (first | with_reducible (exact Since.refl _) | with_reducible assumption | with_reducible (refine Since.drew ?_) | with_reducible (refine Since.drewN ?_ _) | with_reducible (refine Since.alloc ?_ _) | (with_reducible (refine Since.setCell ?_ ?_ _); rotate_left; focus (first | (simp; done) | (simp; omega) | omega)) | (with_reducible (refine Since.trans ?_ (by with_reducible assumption))))), ?_, ?_⟩
    · exact (zero4 w _ rfl _).alloc _
    · exact (zero4 (w.alloc _) _ (by simp) _)
  case round =>
    obtain ⟨j, hj, rfl, hS, hR0, hR⟩ := hrel
    by_cases hjm : j < 4
    · first
      | exact absurd hjm (by omega)
      | have hjm' : (j : Int) < 4 := by omega
        have hcell := hR.1 j (by omega)
        have hfr := hR.2.1 j
        have hlt := hR.2.2
        have hC := s_in A n c f (p + 2 * j) 2 (x + 2 * (j : Int)) 2 wr (h.on hS) HF.out (by omega) rfl (by omega) (by omega) hn
        have e0 : sgn 2 (numAt f (p + 2 * j) 2) = s2 f (p + 2 * j) := rfl
        rw [e0] at hC
        generalize hv : s2 f (p + 2 * j) = v at *
        have HV := Lib.hid hv
        clear hv e0 h hp
        subst hx
        go_wp2_with (go_at_call 53; (with_reducible refine hC.mono ?_); rintro e w2 ⟨rfl, rfl⟩)
        go_roundw
        case rel =>
          refine ⟨j + 1, by omega, by go_num, by (repeat (first | with_reducible (exact Since.refl _) | with_reducible assumption | with_reducible (refine Since.drew ?_) | with_reducible (refine Since.drewN ?_ _) | with_reducible (refine Since.alloc ?_ _) | (with_reducible (refine Since.setCell ?_ ?_ _); rotate_left; focus (first | (simp; done) | (simp; omega) | omega)) | (with_reducible (refine Since.trans ?_ (by with_reducible assumption))))), hR0.far (by omega) _ _, (hR.set j _).congr (fun t ht => ?_)⟩
          rw [← HV.out]
          exact mtF_next f p j t
        case measure => simp [intOf]; omega
    · obtain rfl : j = 4 := by omega
      obtain ⟨c0, c1, c2, c3, hlt⟩ := row4 hR
      obtain ⟨z0, z1, z2, z3, hlt0⟩ := row4 hR0
      have f0 := hR0.2.1 0
      have f1 := hR0.2.1 1
      have f2 := hR0.2.1 2
      have f3 := hR0.2.1 3
      have e0 : mtF f p 4 0 = .int .i64 (if 0 < 4 then s2 f p else 0) := rfl
      have e1 : mtF f p 4 1 = .int .i64 (if 1 < 4 then s2 f (p + 2) else 0) := rfl
      have e2 : mtF f p 4 2 = .int .i64 (if 2 < 4 then s2 f (p + 4) else 0) := rfl
      have e3 : mtF f p 4 3 = .int .i64 (if 3 < 4 then s2 f (p + 6) else 0) := rfl
      rw [e0] at c0
      rw [e1] at c1
      rw [e2] at c2
      rw [e3] at c3
      have hE := (show matA f p 4 = [.int .i64 (if 4 = 0 then 16384 else s2 f p), .int .i64 (if 4 = 4 then s2 f (p + 2) else 0), .int .i64 (if 4 = 4 then s2 f (p + 4) else 0),
  .int .i64 (if 4 = 0 then 16384 else if 4 = 1 then s2 f p else if 4 = 2 then s2 f (p + 2) else s2 f (p + 6))] from rfl)
      generalize s2 f p = v0 at *
      generalize s2 f (p + 2) = v1 at *
      generalize s2 f (p + 4) = v2 at *
      generalize s2 f (p + 6) = v3 at *
      simp at c0 c1 c2 c3 hE
      have E := Lib.hid hE
      clear e0 e1 e2 e3 h hE
      go_wp2_with fail
      refine ret_agg rfl rfl (cs := matA f p 4) ?_ Try.underlying42 rfl (by kernel_rfl) rfl ?_
      rotate_left
      · exact ⟨rfl, by (repeat (first | with_reducible (exact Since.refl _) | with_reducible assumption | with_reducible (refine Since.drew ?_) | with_reducible (refine Since.drewN ?_ _) | with_reducible (refine Since.alloc ?_ _) | (with_reducible (refine Since.setCell ?_ ?_ _); rotate_left; focus (first | (simp; done) | (simp; omega) | omega)) | (with_reducible (refine Since.trans ?_ (by with_reducible assumption)))))⟩
      · intro j v hv
        rw [E.out] at hv
        have hj : j = 0 ∨ j = 1 ∨ j = 2 ∨ j = 3 := by
          have : j < 4 := by
            rcases Nat.lt_or_ge j 4 with h | h
            · exact h
            · rw [List.getElem?_eq_none (by simpa using h)] at hv; cases hv
          omega
        rcases hj with rfl | rfl | rfl | rfl <;> (simp at hv; subst hv; simp [go_sem, z0, z1, z2, z3])

end Go.Proofs.Ytcjjcjpkmjbfkaa
