/-
  Texts of this seat, put together: each with its own head.
-/
import Derived.Test.YtdbenpncnkfliaaFlBb
import Derived.Deep.Matrix
import Derived.Deep.SlicePairs
import Derived.Shelf.Abstract
import Derived.Deep.CutBlock
import Derived.Deep.DeepCutAuto
import Derived.Deep.MidRow

/-
  append to a row of the call's own that may be nil, of a source that may be nil; a slice of slices of whole numbers that came in.
-/
namespace Go.Proofs.Ytdbenpncnkfliaa
open Go.RowKit Go.ChangeShapes Go.WideShapes Go.Deep
section
variable {P : Program} (w : World)
theorem run_append_any (base : Nat) (t ty e : TypeId) (i : TypeInfo) (z : Value) (bytes : Nat) (ht : P.underlying t = some (.slice e)) (hi : P.info? e = some i) (hz : i.zero = some z)
    (hsize : i.size = 1) (hby : i.bytes = bytes) (hzs : z.cells.size = 1) (v : Value) (n : Nat) (xs : List Value) (hown : w.ownsRow base e 1 v n xs)
    (B : Nat) (A : Option Addr) (m c : Nat) (V : Nat → Value) (hr : Rd w B A m V) (h1 : ∀ u ∈ tab m V, u.oneCell' = true) (hbytes : (n + m) * bytes ≤ 140737488355328) (h63 : n + m ≤ maxLen) (hbase : base ≤ w.heap.size) :
    ∃ v' w', (Builtin.append_ #[t, t] ty #[v, .slice A m c]).run P w = .ok v' w' ∧ w'.ownsRow base e 1 v' (n + m) (xs ++ tab m V) ∧ w.grownBy w' v.ownBlock := by
  rcases A with _ | ad
  · have hm : m = 0 := by
      rcases Nat.eq_zero_or_pos m with h0 | h0
      · exact h0
      · obtain ⟨b, o, h, _⟩ := hr h0; cases h
    subst hm
    refine ⟨v, w, ?_, by simpa [tab_zero] using hown, World.grownBy.refl w _⟩
    rcases hown.2 with ⟨rfl, hx⟩ | ⟨g, cap, cur, rfl, _, _, hnc, _⟩
    · have hn : n = 0 := by have h1 := hown.1; rw [hx] at h1; simp at h1; omega
      subst hn
      simp [Builtin.append_, run_underlying ht, sizeOf, typeInfo, hi, Builtin.lenOf, Builtin.firstCells]
    · simp [Builtin.append_, run_underlying ht, sizeOf, typeInfo, hi, Builtin.lenOf, Builtin.firstCells, hnc, storeCells]
  · have hc : ∀ j u, (tab m V)[j]? = some u → w.cell? (ad.add j) = some u := by
      intro j u hu
      rw [tab_get] at hu
      split at hu
      · rename_i hj
        obtain ⟨b, o, h, _, hc⟩ := hr (by omega)
        injection h with h; subst h; injection hu with hu; subst hu
        rw [← hc j hj]
        unfold Addr.add; split <;> simp_all
      · cases hu
    obtain ⟨v', w', hrun, h2, h3, _⟩ := run_append_own (P := P) w base t ty e i z 1 bytes ht hi hz hsize hby hzs (by omega) v n xs hown ad m c (tab m V) (by rw [tab_len]; omega) hc h1 h63 hbytes hbase
    exact ⟨v', w', hrun, h2, h3⟩
theorem wpList_append_any {ops : Array Oper} {rest : List Oper} {o : Oper} {a : Act} {Q : Exit → Act → World → Prop} (hgd : o.guard = none) (s x : Operand) (t : TypeId)
    (ho : o.op = .call { callee := .builtin .append, args := #[s, x], argTypes := #[t, t] })
    (base : Nat) (e : TypeId) (i : TypeInfo) (z : Value) (bytes : Nat) (ht : P.underlying t = some (.slice e)) (hi : P.info? e = some i) (hz : i.zero = some z)
    (hsize : i.size = 1) (hby : i.bytes = bytes) (hzs : z.cells.size = 1) (v : Value) (n : Nat) (xs : List Value) (hs : a.eval s = v) (hown : w.ownsRow base e 1 v n xs)
    (B : Nat) (A : Option Addr) (m c : Nat) (V : Nat → Value) (hx : a.eval x = .slice A m c) (hr : Rd w B A m V) (h1 : ∀ u ∈ tab m V, u.oneCell' = true) (hbytes : (n + m) * bytes ≤ 140737488355328) (h63 : n + m ≤ maxLen) (hbase : base ≤ w.heap.size)
    (h : ∀ v' w', w'.ownsRow base e 1 v' (n + m) (xs ++ tab m V) → w.grownBy w' v.ownBlock → wpList P ops Q rest (a.put o.dst v') w') :
    wpList P ops Q (o :: rest) a w := by
  refine wpList_plain hgd fun K hK => ?_
  obtain ⟨v', w', hr, h2, h3⟩ := run_append_any (P := P) w base t o.type e i z bytes ht hi hz hsize hby hzs v n xs hown B A m c V hr h1 hbytes h63 hbase
  unfold Oper.wp execOp
  simp only [ho, resolve, invoke, builtin, Sem.run_bind, Sem.run_pure, Result.andThen_ok, List.map_toArray, List.map_cons, List.map_nil, hs, hx, hr]
  exact hK _ _ (h v' w' h2 h3)
end
/-- What an own row, nil let in, reads as. -/
theorem own_any {w : World} {base : Nat} {e : TypeId} {v : Value} {n : Nat} {V : Nat → Value} (h : w.ownsRow base e 1 v n (tab n V)) : ∃ A c, v = .slice A n c ∧ n ≤ c ∧ Rd w w.heap.size A n V ∧ (∀ k, v.ownBlock = some k → base ≤ k) := by
  rcases h.2 with ⟨rfl, hx⟩ | ⟨g, cap, cur, rfl, hb, hh, hnc, _⟩
  · have hn : n = 0 := by have h1 := h.1; rw [hx] at h1; simp at h1; omega
    subst hn
    exact ⟨none, 0, rfl, Nat.le_refl _, Rd.zero, fun k hk => by cases hk⟩
  · exact ⟨_, cap, rfl, hnc, Rd.of_row (row_of_own h), fun k hk => by simp [Value.ownBlock] at hk; omega⟩

section
variable {H : Type} {enc : TypeId × Value → H} {P : Program} {W : World}
theorem rd_of_places {a : Addr} {n len : Nat} {V : Nat → Value} {ps : List MemPlace} (hps : MemPlace.row a len = ps) (hlt : ∀ x ∈ ps, x.block < W.heap.size) (hn : n ≤ len) (hc : ∀ i, i < n → W.cell? (a.add i) = some (V i)) : Rd W W.heap.size (some a) n V := fun h0 => by
  have hspot : a.spot = none := by
    have h0 := hc 0 h0
    cases hsp : a.spot with
    | none => rfl
    | some s =>
      have e : (a.add 0).spot = some s := by unfold Addr.add; split <;> simp_all
      simp only [World.cell?] at h0
      split at h0
      · simp [e] at h0
      · cases h0
  obtain ⟨b, o, s⟩ := a
  simp only at hspot
  subst hspot
  subst hps
  refine ⟨b, o, rfl, hlt (.cell b (o + 0)) (MemPlace.mem_row.2 ⟨0, by omega, rfl⟩), fun j hj => ?_⟩
  rw [← add_plain]
  exact hc j hj
/-- A slice of slices of whole numbers that came in. -/
theorem open_rows {t e q : TypeId} {k : IntKind} {r : Reach} {b0 : Nat} {v : Value} {d : DataW H} {ps : List MemPlace} (ht : P.underlying t = some (.slice e)) (he : P.underlying e = some (.slice q)) (hq : P.underlying q = some (.int k)) (ce : P.cellsOf e = 1) (cq : P.cellsOf q = 1)
    (hval : Value.okWide P W r b0 t v) (h : DataW.Trod enc P W 0 (fun _ => true) true t v d ps) (hlt : ∀ x ∈ ps, x.block < W.heap.size) :
    ∃ (A : Option Addr) (n c : Nat) (AA : Nat → Option Addr) (LL CC : Nat → Nat) (Z : Nat → Nat → Int), v = .slice A n c ∧ n ≤ c ∧ c ≤ maxLen ∧ Rd W W.heap.size A n (fun j => .slice (AA j) (LL j) (CC j)) ∧
      ∀ j, j < n → LL j ≤ CC j ∧ CC j ≤ maxLen ∧ Rd W W.heap.size (AA j) (LL j) (IntRow k (Z j)) ∧ ∀ i, i < LL j → (Lit.int k (Z j i)).wf = true := by
  obtain ⟨A, n, c, rfl⟩ := okWide_slice ht hval
  obtain ⟨fuel, hf⟩ := h
  rcases open_int_rows ht he hq ce cq hf with ⟨hcs, hx⟩ | ⟨a, len, cap, AA, LL, CC, Z, hcs, _, hl, hm, hx, hall⟩
  · simp [Value.cells] at hcs
    obtain ⟨rfl, rfl, rfl⟩ := hcs
    exact ⟨none, 0, 0, fun _ => none, fun _ => 0, fun _ => 0, fun _ _ => 0, rfl, Nat.le_refl _, Nat.zero_le _, Rd.zero, fun j hj => absurd hj (by omega)⟩
  · simp [Value.cells] at hcs
    obtain ⟨rfl, rfl, rfl⟩ := hcs
    simp only [Prod.mk.injEq] at hx
    obtain ⟨rfl, rfl⟩ := hx
    refine ⟨some a, n, c, AA, LL, CC, fun j i => (Z j).getD i 0, rfl, hl, hm, rd_of_places rfl (fun x hx => hlt x (List.mem_append_left _ hx)) hl (fun i hi => (hall i (by omega)).1), fun j hj => ?_⟩
    obtain ⟨_, h2, h3, h4, h5, h6, h7⟩ := hall j (by omega)
    refine ⟨h2, h3, ?_, fun i hi => ?_⟩
    · cases hA : AA j with
      | none =>
        have := h6 hA
        have hL0 : LL j = 0 := by omega
        rw [hL0]
        exact Rd.zero
      | some a' =>
        refine rd_of_places (len := (Z j).length) rfl (fun x hx => hlt x (List.mem_append_right _ (List.mem_flatMap.2 ⟨j, by simp; omega, by unfold intRowPlaces; rw [hA]; exact hx⟩))) (by omega) (fun i hi => ?_)
        exact (h7 a' hA).2 i (by omega)
    · have hi' : i < (Z j).length := by omega
      have e : (Z j).getD i 0 = (Z j)[i] := by simp [List.getD, hi']
      show (Lit.int k ((Z j).getD i 0)).wf = true
      rw [e]
      exact h5 _ (List.getElem_mem hi')
end
end Go.Proofs.Ytdbenpncnkfliaa

/-
  Slices of values of k cells each: what a row reads as, append to an own row, what came in, opened.
-/
namespace Go.Proofs.Ytdbenpncnkfliaa
open Go.RowKit Go.ChangeShapes Go.WideShapes Go.Deep
set_option linter.unusedVariables false
section
variable {P : Program} (w : World)
theorem run_append_k (base : Nat) (t ty e : TypeId) (i : TypeInfo) (z : Value) (k bytes : Nat) (ht : P.underlying t = some (.slice e)) (hi : P.info? e = some i) (hz : i.zero = some z)
    (hsize : i.size = k) (hby : i.bytes = bytes) (hzs : z.cells.size = k) (hk : 0 < k) (v : Value) (n : Nat) (xs : List Value) (hown : w.ownsRow base e k v n xs)
    (B : Nat) (A : Option Addr) (m c : Nat) (V : Nat → Value) (hr : Rd w B A (m * k) V) (h1 : ∀ u ∈ tab (m * k) V, u.oneCell' = true) (hbytes : (n + m) * bytes ≤ 140737488355328) (h63 : n + m ≤ maxLen) (hbase : base ≤ w.heap.size) :
    ∃ v' w', (Builtin.append_ #[t, t] ty #[v, .slice A m c]).run P w = .ok v' w' ∧ w'.ownsRow base e k v' (n + m) (xs ++ tab (m * k) V) ∧ w.grownBy w' v.ownBlock := by
  rcases A with _ | ad
  · have hm : m = 0 := by
      rcases Nat.eq_zero_or_pos m with h0 | h0
      · exact h0
      · obtain ⟨b, o, h, _⟩ := hr (Nat.mul_pos h0 hk); cases h
    subst hm
    refine ⟨v, w, ?_, by simpa [tab_zero] using hown, World.grownBy.refl w _⟩
    rcases hown.2 with ⟨rfl, hn⟩ | ⟨g, cap, cur, rfl, _, _, hnc, _⟩
    · subst hn
      simp [Builtin.append_, run_underlying ht, sizeOf, typeInfo, hi, Builtin.lenOf, Builtin.firstCells]
    · simp [Builtin.append_, run_underlying ht, sizeOf, typeInfo, hi, Builtin.lenOf, Builtin.firstCells, hnc, storeCells]
  · have hc : ∀ j u, (tab (m * k) V)[j]? = some u → w.cell? (ad.add j) = some u := by
      intro j u hu
      rw [tab_get] at hu
      split at hu
      · rename_i hj
        obtain ⟨b, o, h, _, hc⟩ := hr (by omega)
        injection h with h; subst h; injection hu with hu; subst hu
        rw [add_plain]
        exact hc j hj
      · cases hu
    obtain ⟨v', w', hrun, h2, h3, _⟩ := run_append_own (P := P) w base t ty e i z k bytes ht hi hz hsize hby hzs hk v n xs hown ad m c (tab (m * k) V) (by rw [tab_len]) hc h1 h63 hbytes hbase
    exact ⟨v', w', hrun, h2, h3⟩
theorem wpList_append_k {ops : Array Oper} {rest : List Oper} {o : Oper} {a : Act} {Q : Exit → Act → World → Prop} (hgd : o.guard = none) (s x : Operand) (t : TypeId)
    (ho : o.op = .call { callee := .builtin .append, args := #[s, x], argTypes := #[t, t] })
    (base : Nat) (e : TypeId) (i : TypeInfo) (z : Value) (k bytes : Nat) (ht : P.underlying t = some (.slice e)) (hi : P.info? e = some i) (hz : i.zero = some z)
    (hsize : i.size = k) (hby : i.bytes = bytes) (hzs : z.cells.size = k) (hk : 0 < k) (v : Value) (n : Nat) (xs : List Value) (hs : a.eval s = v) (hown : w.ownsRow base e k v n xs)
    (B : Nat) (A : Option Addr) (m c : Nat) (V : Nat → Value) (hx : a.eval x = .slice A m c) (hr : Rd w B A (m * k) V) (h1 : ∀ u ∈ tab (m * k) V, u.oneCell' = true) (hbytes : (n + m) * bytes ≤ 140737488355328) (h63 : n + m ≤ maxLen) (hbase : base ≤ w.heap.size)
    (h : ∀ v' w', w'.ownsRow base e k v' (n + m) (xs ++ tab (m * k) V) → w.grownBy w' v.ownBlock → wpList P ops Q rest (a.put o.dst v') w') :
    wpList P ops Q (o :: rest) a w := by
  refine wpList_plain hgd fun K hK => ?_
  obtain ⟨v', w', hr, h2, h3⟩ := run_append_k (P := P) w base t o.type e i z k bytes ht hi hz hsize hby hzs hk v n xs hown B A m c V hr h1 hbytes h63 hbase
  unfold Oper.wp execOp
  simp only [ho, resolve, invoke, builtin, Sem.run_bind, Sem.run_pure, Result.andThen_ok, List.map_toArray, List.map_cons, List.map_nil, hs, hx, hr]
  exact hK _ _ (h v' w' h2 h3)
end
/-- What an own row of such values, nil let in, reads as. -/
theorem own_k {w : World} {base : Nat} {e : TypeId} {v : Value} {n k : Nat} {V : Nat → Value} (hk : 0 < k) (h : w.ownsRow base e k v n (tab (n * k) V)) : ∃ A c, v = .slice A n c ∧ n ≤ c ∧ Rd w w.heap.size A (n * k) V ∧ (∀ q, v.ownBlock = some q → base ≤ q) := by
  have h' := h
  rcases h.2 with ⟨rfl, hn⟩ | ⟨g, cap, cur, rfl, hb, hh, hnc, _⟩
  · subst hn
    exact ⟨none, 0, rfl, Nat.le_refl _, by rw [Nat.zero_mul]; exact Rd.zero, fun q hq => by cases hq⟩
  · refine ⟨_, cap, rfl, hnc, fun hm => ⟨g, 0, rfl, ?_, fun j hj => ?_⟩, fun q hq => by simp [Value.ownBlock] at hq; omega⟩
    · rcases Nat.lt_or_ge g w.heap.size with hlt | hge
      · exact hlt
      · rw [Array.getElem?_eq_none hge] at hh; cases hh
    · have hcell := h'.cells (g := g) rfl
      rw [← add_plain]
      exact hcell j _ (by rw [tab_get, if_pos hj])
/-- An own row's cells. -/
theorem row_of_own_k {w : World} {base n k : Nat} {e : TypeId} {g cap : Nat} {V : Nat → Value} (hk : 0 < k) (h : w.ownsRow base e k (.slice (some ⟨g, 0, none⟩) n cap) n (tab (n * k) V)) : Row w g (n * k) V := by
  refine ⟨fun j hj => ?_, fun j => h.frozenAt j, ?_⟩
  · have hcell := h.cells (g := g) rfl j _ (by rw [tab_get, if_pos hj])
    rw [add_plain, Nat.zero_add] at hcell
    exact hcell
  · rcases h.2 with ⟨e1, _⟩ | ⟨g', c', cur, e1, _, hh, _⟩
    · cases e1
    · injection e1 with e1 _ _
      injection e1 with e1
      injection e1 with e1
      subst e1
      rcases Nat.lt_or_ge g w.heap.size with hlt | hge
      · exact hlt
      · rw [Array.getElem?_eq_none hge] at hh; cases hh
theorem own_since_k {w w' : World} {base n k : Nat} {e : TypeId} {v : Value} {xs : List Value} (h : w.ownsRow base e k v n xs) (s : Since w w') : w'.ownsRow base e k v n xs := by
  refine ⟨h.1, ?_⟩
  rcases h.2 with h0 | ⟨g, cap, cur, e1, hb, hh, r⟩
  · exact .inl h0
  · refine .inr ⟨g, cap, cur, e1, hb, ?_, r⟩
    have hlt : g < w.heap.size := by
      rcases Nat.lt_or_ge g w.heap.size with hlt | hge
      · exact hlt
      · rw [Array.getElem?_eq_none hge] at hh; cases hh
    rw [s.below.block g hlt]; exact hh
theorem tab_more (n m : Nat) (V : Nat → Value) : tab n V ++ tab m (fun t => V (n + t)) = tab (n + m) V := by
  rw [tab_append]
  refine tab_congr fun j hj => ?_
  by_cases h : j < n
  · rw [if_pos h]
  · rw [if_neg h, show n + (j - n) = j by omega]
theorem list_made (z : Array Value) (n : Nat) (V : Nat → Value) (hV : ∀ j, z[j % z.size]! = V j) : (madeCells z n).toList = tab n V := by
  apply List.ext_getElem?
  intro j
  rw [tab_get]
  by_cases hj : j < n
  · rw [if_pos hj]
    simp [madeCells, hj, hV]
  · rw [if_neg hj]
    simp [madeCells, hj]
section
variable {P : Program} (w : World)
/-- make([]T, n), T of k cells: an own row of zero values. -/
theorem wpList_make_k {ops : Array Oper} {rest : List Oper} {o : Oper} {a : Act} {Q : Exit → Act → World → Prop}
    (hg : o.guard = none) (l c : Operand) (t : TypeId) (hop : o.op = Op.makeSlice t l c)
    (e : TypeId) (i : TypeInfo) (z : Value) (k bytes : Nat) (h1 : P.underlying t = some (.slice e)) (h2 : P.info? e = some i) (h3 : i.zero = some z) (h4 : i.size = k) (h5 : i.bytes = bytes) (V : Nat → Value) (hV : ∀ j, z.cells[j % z.cells.size]! = V j)
    (kl kc : IntKind) (n : Nat) (hl : a.eval l = .int kl (n : Int)) (hc : a.eval c = .int kc (n : Int)) (b2 : bytes * n ≤ 281474976710656) (b3 : n ≤ maxLen)
    (hK : ∀ w', w'.ownsRow w.heap.size e k (.slice (some ⟨w.heap.size, 0, none⟩) n n) n (tab (n * k) V) → Since w w' → wpList P ops Q rest (a.put o.dst (.slice (some ⟨w.heap.size, 0, none⟩) n n)) w') :
    wpList P ops Q (o :: rest) a w := by
  refine wpList_make_full w hg l c t hop w.heap.size e i z k h1 h2 h3 h4 kl kc (n : Int) (n : Int) n hl hc rfl rfl (by rw [h5]; exact b2) b3 (Nat.le_refl _) (fun w' hown hgr => hK w' ?_ (since_grown (Since.refl w) hgr (fun k hk => by cases hk)))
  rw [list_made _ _ V hV] at hown
  exact hown
end
theorem rd_add_lit (a : Addr) (i j : Nat) : (a.add i).add j = a.add (i + j) := add_add a i j
/-- A new block that holds a value's cells, as a slice of one. -/
theorem rd_lit {w : World} {cs : Array Value} {t : TypeId} {b n : Nat} {V : Nat → Value} (hb : b = w.heap.size) (h : ∀ j, j < n → cs[j]? = some (V j)) : Rd (w.alloc (.cells cs t)) (w.alloc (.cells cs t)).heap.size (some ⟨b, 0, none⟩) n V := fun _ => by
  subst hb
  exact ⟨w.heap.size, 0, rfl, by simp, fun j hj => by rw [World.cell?_alloc_new, Nat.zero_add]; exact h j hj⟩
section
variable {H : Type} {enc : TypeId × Value → H} {P : Program} {W : World}
/-- A slice of values of k cells each that came in. -/
theorem open_flat {t e : TypeId} {k : Nat} {r : Reach} {b0 : Nat} {v : Value} {d : DataW H} {ps : List MemPlace} (ht : P.underlying t = some (.slice e)) (ce : P.cellsOf e = k) (hk : 0 < k)
    (hval : Value.okWide P W r b0 t v) (h : DataW.Trod enc P W 0 (fun _ => true) true t v d ps) (hlt : ∀ x ∈ ps, x.block < W.heap.size) :
    ∃ (A : Option Addr) (n c : Nat) (V : Nat → Value), v = .slice A n c ∧ n ≤ c ∧ c ≤ maxLen ∧ Rd W W.heap.size A (n * k) V ∧ (∀ i, i < n → ∃ m x, DataW.trod enc P W 0 (fun _ => true) true m e (tab k (fun j => V (i * k + j))) = some x) ∧ (c = 0 ∨ ∃ el sp, d = .slice el sp ∧ el.length + sp.length = c) := by
  obtain ⟨A, n, c, rfl⟩ := okWide_slice ht hval
  obtain ⟨fuel, hf⟩ := h
  rcases open_slice ht hf with ⟨hcs, hx⟩ | ⟨a, len, cap, m, z, D, Pl, hcs, _, hl, hm, hmm, hx, hall⟩
  · simp [Value.cells] at hcs
    obtain ⟨rfl, rfl, rfl⟩ := hcs
    exact ⟨none, 0, 0, fun _ => undef, rfl, Nat.le_refl _, Nat.zero_le _, by rw [Nat.zero_mul]; exact Rd.zero, fun j hj => absurd hj (by omega), .inl rfl⟩
  · simp [Value.cells] at hcs
    obtain ⟨rfl, rfl, rfl⟩ := hcs
    simp only [if_true] at hmm
    subst hmm
    simp only [Prod.mk.injEq] at hx
    obtain ⟨rfl, rfl⟩ := hx
    have each : ∀ j, j < m → ∃ cs : List Value, cs.length = k ∧ (∀ i, i < k → W.cell? (a.add (j * k + i)) = cs[i]?) ∧ ∃ m' x, DataW.trod enc P W 0 (fun _ => true) true m' e cs = some x := by
      intro j hj
      obtain ⟨cs', g1, g2⟩ := hall j hj
      rw [ce] at g1
      obtain ⟨_, hlen, hcell⟩ := World.cells?_some g1
      refine ⟨cs', hlen, fun i hi => ?_, _, _, g2⟩
      have c0 := hcell i (by omega)
      rw [add_add] at c0
      exact c0
    obtain ⟨q, hq⟩ := choose_lt each
    have hV : ∀ j, j < m → ∀ i, i < k → W.cell? (a.add (j * k + i)) = some ((q j).getD i undef) := fun j hj i hi => by
      obtain ⟨h1, h2, _⟩ := hq j hj
      rw [h2 i hi, List.getElem?_eq_getElem (by omega)]
      simp [List.getD, show i < (q j).length by omega]
    refine ⟨some a, n, m, fun j => (q (j / k)).getD (j % k) undef, rfl, hl, hm, ?_, fun i hi => ?_, .inr ⟨_, _, rfl, ?_⟩⟩
    · intro hn
      have hspot : a.spot = none := by
        have h0 := hV 0 (by rcases Nat.eq_zero_or_pos m with h0 | h0 <;> (try subst h0) <;> (try simp at hl) <;> (try subst hl) <;> (try simp at hn) <;> omega) 0 hk
        rw [Nat.zero_mul, Nat.add_zero] at h0
        cases hsp : a.spot with
        | none => rfl
        | some s =>
          have e : (a.add 0).spot = some s := by unfold Addr.add; split <;> simp_all
          simp only [World.cell?] at h0
          split at h0
          · simp [e] at h0
          · cases h0
      obtain ⟨b, o, s⟩ := a
      simp only at hspot
      subst hspot
      have hmk : 0 < m * k := Nat.lt_of_lt_of_le hn (Nat.mul_le_mul_right _ hl)
      refine ⟨b, o, rfl, hlt (.cell b (o + 0)) (List.mem_append_left _ (MemPlace.mem_row.2 ⟨0, by rw [ce]; exact hmk, rfl⟩)), fun j hj => ?_⟩
      have hjk : j / k < m := by rw [Nat.div_lt_iff_lt_mul hk]; exact Nat.lt_of_lt_of_le hj (Nat.mul_le_mul_right _ hl)
      have h1 := hV (j / k) hjk (j % k) (Nat.mod_lt _ hk)
      rw [Nat.div_add_mod' j k] at h1
      rw [← add_plain]
      exact h1
    · obtain ⟨h1, h2, m', x, h3⟩ := hq i (by omega)
      refine ⟨m', x, ?_⟩
      rw [← h3]
      congr 1
      apply List.ext_getElem?
      intro j
      rw [tab_get]
      split
      · rename_i hj
        have e1 : (i * k + j) / k = i := by rw [Nat.add_comm, Nat.add_mul_div_right _ _ hk, Nat.div_eq_of_lt hj, Nat.zero_add]
        have e2 : (i * k + j) % k = j := by rw [Nat.add_comm, Nat.add_mul_mod_self_right, Nat.mod_eq_of_lt hj]
        simp only [e1, e2]
        rw [List.getElem?_eq_getElem (by omega)]
        simp [List.getD, show j < (q i).length by omega]
      · rw [List.getElem?_eq_none (by omega)]
    · simp; omega
end
end Go.Proofs.Ytdbenpncnkfliaa

/-
  Rows of elements of k cells each, told by a list of anything: own rows, rows that are read, append.
-/
namespace Go.Proofs.Ytdbenpncnkfliaa
open Go.RowKit Go.ChangeShapes Go.WideShapes Go.Deep
set_option linter.unusedVariables false

section
variable {α : Type} {k : Nat} {enc : α → List Value}
def cellsG (enc : α → List Value) (L : List α) : List Value := L.flatMap enc
theorem cellsG_snoc (L : List α) (s : α) : cellsG enc (L ++ [s]) = cellsG enc L ++ enc s := by unfold cellsG; simp
theorem cellsG_append (L M : List α) : cellsG enc (L ++ M) = cellsG enc L ++ cellsG enc M := by unfold cellsG; simp
theorem cellsG_len (hk : ∀ a, (enc a).length = k) : ∀ L : List α, (cellsG enc L).length = L.length * k
  | [] => by simp [cellsG]
  | s :: L => by
    have ih := cellsG_len hk L
    unfold cellsG at ih ⊢
    rw [List.flatMap_cons, List.length_append, ih, List.length_cons, hk, Nat.succ_mul, Nat.add_comm]
theorem cellsG_get (hk : ∀ a, (enc a).length = k) : ∀ (L : List α) (j : Nat) (s : α), L[j]? = some s → ∀ i, i < k → (cellsG enc L)[j * k + i]? = (enc s)[i]?
  | [], j, s, h, i, hi => by simp at h
  | a :: L, 0, s, h, i, hi => by
    simp only [List.getElem?_cons_zero, Option.some.injEq] at h
    subst h
    unfold cellsG
    rw [List.flatMap_cons, Nat.zero_mul, Nat.zero_add, List.getElem?_append_left (by rw [hk]; exact hi)]
  | a :: L, j + 1, s, h, i, hi => by
    rw [List.getElem?_cons_succ] at h
    have ih := cellsG_get hk L j s h i hi
    unfold cellsG at ih ⊢
    have e : (j + 1) * k + i = k + (j * k + i) := by rw [Nat.succ_mul]; omega
    rw [List.flatMap_cons, e, List.getElem?_append_right (by rw [hk]; omega), hk, Nat.add_sub_cancel_left]
    exact ih
theorem cellsG_tab (hk : ∀ a, (enc a).length = k) (L : List α) : cellsG enc L = tab (L.length * k) (fun j => (cellsG enc L).getD j undef) := by
  apply List.ext_getElem?
  intro j
  rw [tab_get]
  split
  · rename_i h
    rw [List.getD_eq_getElem?_getD, List.getElem?_eq_getElem (by rw [cellsG_len hk]; exact h)]
    rfl
  · rename_i h
    rw [List.getElem?_eq_none (by rw [cellsG_len hk]; omega)]
/-- A slice's elements, in a block below B (nil and empty let in). -/
def RdG (k : Nat) (enc : α → List Value) (w : World) (B : Nat) (A : Option Addr) (L : List α) : Prop :=
  0 < L.length → ∃ b o, A = some ⟨b, o, none⟩ ∧ b < B ∧ ∀ j s, L[j]? = some s → ∀ i, i < k → w.cell? ⟨b, o + j * k + i, none⟩ = some ((enc s).getD i undef)
/-- An own row of such elements. -/
def OwnG (t : TypeId) (k : Nat) (enc : α → List Value) (w : World) (base : Nat) (v : Value) (L : List α) : Prop := w.ownsRow base t k v L.length (cellsG enc L)
section
variable {w w' : World} {B B' n : Nat} {A : Option Addr} {L : List α} {t : TypeId} {base : Nat} {v : Value}
theorem RdG.nil : RdG k enc w B A [] := fun h => absurd h (by simp)
theorem RdG.keep (h : RdG k enc w B A L) (hk : ∀ b o, b < B → w'.cell? ⟨b, o, none⟩ = w.cell? ⟨b, o, none⟩) : RdG k enc w' B A L := fun hn => by
  obtain ⟨b, o, rfl, hb, hc⟩ := h hn
  exact ⟨b, o, rfl, hb, fun j s hj i hi => (hk _ _ hb).trans (hc j s hj i hi)⟩
theorem RdG.more (h : RdG k enc w B A L) (hB : B ≤ B') : RdG k enc w B' A L := fun hn => by
  obtain ⟨b, o, rfl, hb, hc⟩ := h hn
  exact ⟨b, o, rfl, by omega, hc⟩
theorem RdG.since (h : RdG k enc w B A L) (hB : B ≤ w.heap.size) (s : Since w w') : RdG k enc w' B A L := h.keep fun b o hb => s.1 b o (by omega)
theorem RdG.on (h : RdG k enc w w.heap.size A L) (s : Since w w') : RdG k enc w' w'.heap.size A L := (h.keep fun b o hb => s.1 b o hb).more s.below.size
theorem OwnG.nil (t : TypeId) (k : Nat) (enc : α → List Value) (w : World) (base : Nat) : OwnG t k enc w base (.slice none 0 0) [] := World.ownsRow_nil _ _ _ _
theorem OwnG.since (h : OwnG t k enc w base v L) (s : Since w w') : OwnG t k enc w' base v L := own_since_k (n := L.length) h s
theorem OwnG.alloc (h : OwnG t k enc w base v L) (o : Obj) : OwnG t k enc (w.alloc o) base v L := h.since ((Since.refl w).alloc o)
theorem OwnG.keep (h : OwnG t k enc w base v L) (hk : ∀ b, base ≤ b → b < w.heap.size → w'.heap[b]? = w.heap[b]?) : OwnG t k enc w' base v L := by
  refine ⟨h.1, ?_⟩
  rcases h.2 with h0 | ⟨g, cap, cur, e1, hb, hh, r⟩
  · exact .inl h0
  · refine .inr ⟨g, cap, cur, e1, hb, ?_, r⟩
    have hlt : g < w.heap.size := by
      rcases Nat.lt_or_ge g w.heap.size with hlt | hge
      · exact hlt
      · rw [Array.getElem?_eq_none hge] at hh; cases hh
    rw [hk g hb hlt]; exact hh
theorem OwnG.lt (h : OwnG t k enc w base v L) {g : Nat} (hg : v.ownBlock = some g) : base ≤ g ∧ g < w.heap.size := by
  rcases h.2 with ⟨rfl, _⟩ | ⟨g', c', cur, rfl, hb, hh, _⟩
  · cases hg
  · simp only [Value.ownBlock, Option.some.injEq] at hg
    subst hg
    rcases Nat.lt_or_ge g' w.heap.size with hlt | hge
    · exact ⟨hb, hlt⟩
    · rw [Array.getElem?_eq_none hge] at hh; cases hh
/-- .. kept where another block is grown. -/
theorem OwnG.grown {row : Option Nat} (h : OwnG t k enc w base v L) (hg : w.grownBy w' row) (hb : ∀ q, v.ownBlock = some q → row ≠ some q) : OwnG t k enc w' base v L := by
  refine ⟨h.1, ?_⟩
  rcases h.2 with h0 | ⟨g, cap, cur, rfl, hb', hh, r⟩
  · exact .inl h0
  · refine .inr ⟨g, cap, cur, rfl, hb', ?_, r⟩
    have hlt : g < w.heap.size := by
      rcases Nat.lt_or_ge g w.heap.size with hlt | hge
      · exact hlt
      · rw [Array.getElem?_eq_none hge] at hh; cases hh
    rw [hg.block g hlt (fun e => hb g rfl e.symm)]; exact hh
/-- What an own row reads as. -/
theorem OwnG.rd (hk0 : 0 < k) (hk : ∀ a, (enc a).length = k) (h : OwnG t k enc w base v L) : ∃ A c, v = .slice A L.length c ∧ L.length ≤ c ∧ RdG k enc w w.heap.size A L := by
  unfold OwnG at h
  rw [cellsG_tab hk] at h
  obtain ⟨A, c, rfl, hc, hr, _⟩ := own_k hk0 h
  refine ⟨A, c, rfl, hc, fun hn => ?_⟩
  obtain ⟨b, o, rfl, hb, hcell⟩ := hr (Nat.mul_pos hn hk0)
  refine ⟨b, o, rfl, hb, fun j s hj i hi => ?_⟩
  have hjl : j < L.length := by
    rcases Nat.lt_or_ge j L.length with h | h
    · exact h
    · rw [List.getElem?_eq_none h] at hj; cases hj
  have hlt : j * k + i < L.length * k := by
    have h1 : (j + 1) * k ≤ L.length * k := Nat.mul_le_mul_right _ hjl
    rw [Nat.succ_mul] at h1
    omega
  have h1 : w.cell? ⟨b, o + (j * k + i), none⟩ = some ((cellsG enc L).getD (j * k + i) undef) := hcell (j * k + i) hlt
  rw [List.getD_eq_getElem?_getD, cellsG_get hk L j s hj i hi, ← List.getD_eq_getElem?_getD, ← Nat.add_assoc] at h1
  exact h1
end
section
variable {P : Program}
/-- append of a slice to an own row. -/
theorem wpList_append_g {w : World} {ops : Array Oper} {rest : List Oper} {o : Oper} {a : Act} {Q : Exit → Act → World → Prop} (hgd : o.guard = none) (s x : Operand) (t e : TypeId)
    (ho : o.op = .call { callee := .builtin .append, args := #[s, x], argTypes := #[t, t] }) (hk0 : 0 < k) (hk : ∀ a, (enc a).length = k) (h1 : ∀ a, ∀ u ∈ enc a, u.oneCell' = true) (bytes : Nat)
    (ht : P.underlying t = some (.slice e)) (hinfo : ∃ i z, P.info? e = some i ∧ i.zero = some z ∧ i.size = k ∧ i.bytes = bytes ∧ z.cells.size = k)
    (base : Nat) (v : Value) (L : List α) (hs : a.eval s = v) (hown : OwnG e k enc w base v L) (B : Nat) (A : Option Addr) (c : Nat) (M : List α) (hx : a.eval x = .slice A M.length c) (hr : RdG k enc w B A M)
    (hbytes : (L.length + M.length) * bytes ≤ 140737488355328) (h63 : L.length + M.length ≤ maxLen) (hbase : base ≤ w.heap.size)
    (h : ∀ v' w', OwnG e k enc w' base v' (L ++ M) → w.grownBy w' v.ownBlock → (∀ q, v.ownBlock = some q → base ≤ q ∧ q < w.heap.size) → wpList P ops Q rest (a.put o.dst v') w') :
    wpList P ops Q (o :: rest) a w := by
  obtain ⟨i, z, hi, hz, hsz, hby, hzs⟩ := hinfo
  have hrr : Rd w B A (M.length * k) (fun j => (cellsG enc M).getD j undef) := fun hn => by
    have hM : 0 < M.length := by
      rcases Nat.eq_zero_or_pos M.length with h | h
      · rw [h, Nat.zero_mul] at hn; omega
      · exact h
    obtain ⟨b, o', rfl, hb, hc⟩ := hr hM
    refine ⟨b, o', rfl, hb, fun j hj => ?_⟩
    have hjk : j / k < M.length := by rw [Nat.div_lt_iff_lt_mul hk0]; exact hj
    have hm := Nat.mod_lt j hk0
    have hg := hc (j / k) _ (List.getElem?_eq_getElem hjk) (j % k) hm
    have hg2 := cellsG_get hk M (j / k) _ (List.getElem?_eq_getElem hjk) (j % k) hm
    rw [Nat.div_add_mod' j k] at hg2
    rw [Nat.add_assoc, Nat.div_add_mod' j k] at hg
    show _ = some ((cellsG enc M).getD j undef)
    rw [List.getD_eq_getElem?_getD, hg2, ← List.getD_eq_getElem?_getD]
    exact hg
  have hone : ∀ u ∈ tab (M.length * k) (fun j => (cellsG enc M).getD j undef), u.oneCell' = true := by
    rw [← cellsG_tab hk]
    intro u hu
    unfold cellsG at hu
    rw [List.mem_flatMap] at hu
    obtain ⟨a, _, ha⟩ := hu
    exact h1 a u ha
  have hlt := fun q (hq : v.ownBlock = some q) => hown.lt hq
  refine wpList_append_k w hgd s x t ho base e i z k bytes ht hi hz hsz hby hzs hk0 v L.length (cellsG enc L) hs hown B A M.length c _ hx hrr hone hbytes h63 hbase (fun v' w' h9 hg => h v' w' ?_ hg hlt)
  rw [← cellsG_tab hk, ← cellsG_append] at h9
  unfold OwnG
  rw [List.length_append]
  exact h9
end
/-- A new block that holds one element's cells. -/
theorem rdG_one {w : World} {cs : Array Value} {ty : TypeId} {b : Nat} (hb : b = w.heap.size) (s : α) (h : ∀ i, i < k → cs[i]? = some ((enc s).getD i undef)) : RdG k enc (w.alloc (.cells cs ty)) (w.alloc (.cells cs ty)).heap.size (some ⟨b, 0, none⟩) [s] := fun _ => by
  subst hb
  refine ⟨w.heap.size, 0, rfl, by simp, fun j s' hj i hi => ?_⟩
  cases j with
  | zero =>
    simp only [List.getElem?_cons_zero, Option.some.injEq] at hj
    subst hj
    rw [World.cell?_alloc_new, Nat.zero_mul, Nat.zero_add]
    exact h i hi
  | succ j => simp at hj
/-- .. and of some elements. -/
theorem rdG_lit {w : World} {cs : Array Value} {ty : TypeId} {b : Nat} (hb : b = w.heap.size) (L : List α) (h : ∀ j s, L[j]? = some s → ∀ i, i < k → cs[0 + j * k + i]? = some ((enc s).getD i undef)) : RdG k enc (w.alloc (.cells cs ty)) (w.alloc (.cells cs ty)).heap.size (some ⟨b, 0, none⟩) L := fun _ => by
  subst hb
  refine ⟨w.heap.size, 0, rfl, by simp, fun j s hj i hi => ?_⟩
  rw [World.cell?_alloc_new]
  exact h j s hj i hi
end
theorem Row.grownB {w w' : World} {b n : Nat} {row : Option Nat} {f : Nat → Value} (h : Row w b n f) (hg : w.grownBy w' row) (hb : row ≠ some b) : Row w' b n f := by
  have e := hg.block b h.2.2 (fun x => hb x.symm)
  refine ⟨fun j hj => ?_, fun j => ?_, Nat.lt_of_lt_of_le h.2.2 hg.size⟩
  · rw [← h.1 j hj]; simp only [World.cell?, e]
  · rw [← h.2.1 j]; simp only [World.frozen?, e]
theorem cell_grown {w w' : World} {b o : Nat} {row : Option Nat} {v : Value} (h : w.cell? ⟨b, o, none⟩ = some v) (hb : b < w.heap.size) (hg : w.grownBy w' row) (hr : row ≠ some b) : w'.cell? ⟨b, o, none⟩ = some v := by
  have e := hg.block b hb (fun x => hr x.symm)
  rw [← h]; simp only [World.cell?, e]
end Go.Proofs.Ytdbenpncnkfliaa

/-
  Layer 14: 'walk' with any function that is handed to it.
-/
namespace Go.Proofs.Ytdbenpncnkfliaa
open Go.RowKit Go.ChangeShapes Go.WideShapes Go.Deep
set_option linter.unusedVariables false

/-- A point. -/
structure Pq where
  (x y : Int)
def ptL (p : Pq) : List Value := [.int .i64 p.x, .int .i64 p.y]
theorem ptL_len (p : Pq) : (ptL p).length = 2 := rfl
theorem ptL_one (p : Pq) : ∀ u ∈ ptL p, u.oneCell' = true := by
  intro u hu
  simp only [ptL, List.mem_cons, List.not_mem_nil, or_false] at hu
  rcases hu with rfl | rfl <;> rfl
/-- A piece's points, rounded; a point more where it isn't the last one. -/
def rndP (s : Sg) (n k : Nat) : Pq := ⟨rndI (atX s k n) n, rndI (atY s k n) n⟩
def addP (L : List Pq) (p : Pq) : List Pq := match L.getLast? with
  | some l => if l.x == p.x && l.y == p.y then L else L ++ [p]
  | none => L ++ [p]
def ptsN (s : Sg) (n : Nat) : Nat → List Pq
  | 0 => []
  | k + 1 => addP (ptsN s n k) (rndP s n k)
def stN (s : Sg) : Nat := stepsN (bendI s)
theorem stN_le (s : Sg) : stN s ≤ 9 := steps_le _
theorem pow_le9 {n : Nat} (h : n ≤ 9) : 1 ≤ 2 ^ n ∧ 2 ^ n ≤ 512 := by
  have hm : n = 0 ∨ n = 1 ∨ n = 2 ∨ n = 3 ∨ n = 4 ∨ n = 5 ∨ n = 6 ∨ n = 7 ∨ n = 8 ∨ n = 9 := by omega
  rcases hm with rfl | rfl | rfl | rfl | rfl | rfl | rfl | rfl | rfl | rfl <;> decide
theorem atOK_in (s : Sg) (n k : Nat) (hn : n ≤ 9) (hk : k ≤ 2 ^ n) (hs : inR s = true) : atOK s (k : Int) (n : Int) = true := by
  have hp := pow_le9 hn
  have e : (2 : Int) ^ n = ((2 ^ n : Nat) : Int) := by simp
  unfold atOK argOK
  rw [hs, Int.toNat_natCast, e]
  simp
  omega
/-- What a function that is handed to 'walk' does at each point. -/
def Step (F : Nat) (cap : Array Value) (s : Sg) (I : Nat → World → Prop) (k : Nat) : Prop :=
  ∀ w1, I k w1 → Calls Try.prog F (#[Pt (rndP s (stN s) k).x (rndP s (stN s) k).y] ++ cap) w1 fun e w2 => (∃ v, e = .returned v) ∧ I (k + 1) w2 ∧ ∀ (b : Nat) (cs : Array Value), w1.heap[b]? = some (Obj.cells cs 37 (0, 0)) → w2.heap[b]? = some (Obj.cells cs 37 (0, 0))
set_option maxRecDepth 100000 in
set_option maxHeartbeats 8000000 in
theorem fa_walk (s : Sg) (hs : s.wf) (F : Nat) (cap : Array Value) (I : Nat → World → Prop) (w : World) (hE : ∀ args w, (callFunc F args).run Try.prog w = .ok (.enter F args) w) (hI0 : I 0 w) (hIs : ∀ k w1 w2, I k w1 → Since w1 w2 → I k w2) (hok : inR s = true) (hstep : ∀ k, k ≤ 2 ^ stN s → Step F cap s I k) :
    Calls Try.prog 53 #[s.v, .func (.func F) #[] cap] w fun e w' => e = .returned (.int .i64 0) ∧ I (2 ^ stN s + 1) w' := by
  have hst := fun w => qu_steps s hs w
  have hrd := fun (k : Nat) (hk : k ≤ 2 ^ stN s) w => qu_round_yes s hs (k : Int) (stN s : Int) (by have := pow_le9 (stN_le s); unfold In64; omega) (by have := stN_le s; unfold In64; omega) (atOK_in s _ k (stN_le s) hk hok) w
  have hn9 := stN_le s
  have hp9 := pow_le9 hn9
  have hshl : IntKind.i64.wrap ((2 ^ stN s : Nat) : Int) = ((2 ^ stN s : Nat) : Int) := IntWalk.i64_in _ (by omega)
  unfold Step Pt at hstep
  unfold Pt at hrd
  obtain ⟨n, hn⟩ : ∃ n, n = stN s := ⟨_, rfl⟩
  change ∀ w, Calls Try.prog 62 #[s.v] w fun e w' => e = .returned (.int .i64 (stN s : Nat)) ∧ Since w w' at hst
  rw [← hn] at hst hrd hstep hn9 hp9 hshl ⊢
  clear hn hok
  have hN := fun w b hb t => seg_new w b hb s t
  have HN := Lib.hid hN
  have HST := Lib.hid hst
  have HRD := Lib.hid hrd
  have HSP := Lib.hid hstep
  have HIS := Lib.hid hIs
  clear hst hrd hstep hIs hN hs
  obtain ⟨m, hm⟩ : ∃ m, m = 2 ^ n := ⟨_, rfl⟩
  have hmI : (2 : Int) ^ n = (m : Int) := by rw [hm]; simp
  have hw1 : wrap64 ((2 : Int) ^ n) = (m : Int) := by rw [hmI]; unfold wrap64; omega
  have hw2 : wrap64 ((m : Int) + 1) = (m : Int) + 1 := by unfold wrap64; omega
  have hw3 : IntKind.i64.wrap ((m : Int) + 1) = (m : Int) + 1 := IntWalk.i64_in _ (by omega)
  rw [← hm] at HRD HSP hp9 ⊢
  clear hm hmI hshl
  unfold Sg.v at *
  go_enter Try.func53, Try.ntmps53
  go_upto_region 2 with (go_at_call 62; (with_reducible refine (HST.out _).mono ?_); rintro e w1 ⟨rfl, hS1⟩)
  refine wp_named fun w2 hw2 => ?_
  have hseg : w2.heap[w.heap.size]? = some (Obj.cells #[.int .i64 s.ax, .int .i64 s.ay, .int .i64 s.cx, .int .i64 s.cy, .int .i64 s.bx, .int .i64 s.bz, .bool s.k] 37 (0, 0)) := by
    subst hw2
    rw [hS1.below.block w.heap.size (by simp)]
    exact heap_alloc_new w _
  have hI2 : I 0 w2 := by subst hw2; exact HIS.out 0 _ _ (HIS.out 0 _ _ hI0 ((Since.refl w).alloc _)) hS1
  clear hw2 hI0
  obtain ⟨q, hq⟩ : ∃ q, q = w.heap.size := ⟨_, rfl⟩
  rw [← hq] at hseg ⊢
  clear hq
  go_wp2_with fail
  rw [hw1]
  clear hw1
  go_loopw [14] (fun y wr => ∃ k : Nat, k ≤ m + 1 ∧ y = .int .i64 (k : Int) ∧ I k wr ∧ wr.heap[q]? = some (Obj.cells #[.int .i64 s.ax, .int .i64 s.ay, .int .i64 s.cx, .int .i64 s.cy, .int .i64 s.bx, .int .i64 s.bz, .bool s.k] 37 (0, 0))) (fun y _ => m + 1 - (intOf y).toNat)
  case atStart => exact ⟨0, by omega, rfl, hI2, hseg⟩
  case round =>
    obtain ⟨k, hk, rfl, hI, hsg⟩ := hrel
    by_cases hkm : k < m + 1
    · have hkm' : (k : Int) < (m : Int) + 1 := by omega
      have hkm2 : k ≤ m := by omega
      have u1 : IntKind.i64.wrap ((k : Int) + 1) = (k : Int) + 1 := IntWalk.i64_in _ (by omega)
      have c0 : wr.cell? ⟨q, 0, none⟩ = some (.int .i64 s.ax) := by simp [World.cell?, hsg]
      have c1 : wr.cell? ⟨q, 1, none⟩ = some (.int .i64 s.ay) := by simp [World.cell?, hsg]
      have c2 : wr.cell? ⟨q, 2, none⟩ = some (.int .i64 s.cx) := by simp [World.cell?, hsg]
      have c3 : wr.cell? ⟨q, 3, none⟩ = some (.int .i64 s.cy) := by simp [World.cell?, hsg]
      have c4 : wr.cell? ⟨q, 4, none⟩ = some (.int .i64 s.bx) := by simp [World.cell?, hsg]
      have c5 : wr.cell? ⟨q, 5, none⟩ = some (.int .i64 s.bz) := by simp [World.cell?, hsg]
      have c6 : wr.cell? ⟨q, 6, none⟩ = some (.bool s.k) := by simp [World.cell?, hsg]
      have hql : q < wr.heap.size := by
        rcases Nat.lt_or_ge q wr.heap.size with h | h
        · exact h
        · rw [Array.getElem?_eq_none h] at hsg; cases hsg
      have hcr := HRD.out k hkm2
      have hcs := HSP.out k hkm2
      have HSG := Lib.hid hsg
      have HI := Lib.hid hI
      unfold rndP at hcs
      simp only at hcs
      generalize rndI (atX s (k : Int) (n : Int)) (n : Int) = px at *
      generalize rndI (atY s (k : Int) (n : Int)) (n : Int) = py at *
      have HCR := Lib.hid hcr
      have HCS := Lib.hid hcs
      clear hcr hcs hsg hI HRD HSP HST
      go_wp2_with (first | (go_at_call 63; (with_reducible refine (HCR.out _).mono ?_); rintro e w4 ⟨rfl, hS4⟩; have hI4 := HIS.out k _ _ (HIS.out k _ _ HI.out hS4) ((Since.refl _).alloc (.cells #[.int .i64 px, .int .i64 py] 33)); have hg4 := (hS4.below.block q hql).trans HSG.out) | (refine (Calls.mono (HCS.out _ hI4) ?_); rintro e w6 ⟨⟨v6, rfl⟩, hI6, hsg6⟩))
      go_roundw
      case rel => exact ⟨k + 1, by omega, by go_num, hI6, hsg6 q _ ((((Since.refl w4).alloc (.cells #[.int .i64 px, .int .i64 py] 33)).below.block q (hS4.2.2.1 _ hql)).trans hg4)⟩
      case measure => simp [intOf]; omega
    · obtain rfl : k = m + 1 := by omega
      go_wp2_with fail
      go_ret
      exact ⟨rfl, hI⟩
end Go.Proofs.Ytdbenpncnkfliaa

/-
  A region that stores into one own block while all else stays ('sx_'); rows of one and of two whole numbers.
-/
namespace Go.Proofs.Ytdbenpncnkfliaa
open Go.RowKit
set_option linter.unusedVariables false

theorem sx_start {r m : Nat} {w w0 : World} (hS : Since w w0) (h : ∀ o, o < m → (w0.cell? ⟨r, o, none⟩).isSome = true) : (∀ b o, b < w0.heap.size → b ≠ r → w0.cell? ⟨b, o, none⟩ = w0.cell? ⟨b, o, none⟩) ∧ (∀ b o, b < w0.heap.size → w0.frozen? ⟨b, o, none⟩ = w0.frozen? ⟨b, o, none⟩) ∧ (∀ k, k < w0.heap.size → k < w0.heap.size) ∧ Since w w0 ∧ (∀ o, o < m → w0.cell? ⟨r, o, none⟩ = some (cellD w0 r o)) :=
  ⟨fun _ _ _ _ => rfl, fun _ _ _ => rfl, fun _ h => h, hS, fun o ho => cellD_of (h o ho)⟩
theorem sx_step {r m : Nat} {w w0 w1 w2 : World} (hr : r < w0.heap.size) (h : (∀ b o, b < w0.heap.size → b ≠ r → w1.cell? ⟨b, o, none⟩ = w0.cell? ⟨b, o, none⟩) ∧ (∀ b o, b < w0.heap.size → w1.frozen? ⟨b, o, none⟩ = w0.frozen? ⟨b, o, none⟩) ∧ (∀ k, k < w0.heap.size → k < w1.heap.size) ∧ Since w w1 ∧ (∀ o, o < m → w1.cell? ⟨r, o, none⟩ = some (cellD w1 r o))) (k : Since w1 w2) :
    (∀ b o, b < w0.heap.size → b ≠ r → w2.cell? ⟨b, o, none⟩ = w0.cell? ⟨b, o, none⟩) ∧ (∀ b o, b < w0.heap.size → w2.frozen? ⟨b, o, none⟩ = w0.frozen? ⟨b, o, none⟩) ∧ (∀ k, k < w0.heap.size → k < w2.heap.size) ∧ Since w w2 ∧ (∀ o, o < m → w2.cell? ⟨r, o, none⟩ = some (cellD w2 r o)) := by
  obtain ⟨h1, h2, h3, h4, h5⟩ := h
  exact ⟨fun b o hb hne => (k.1 b o (h3 b hb)).trans (h1 b o hb hne), fun b o hb => (k.2.1 b o (h3 b hb)).trans (h2 b o hb), fun j hj => k.2.2.1 j (h3 j hj), h4.trans k, fun o ho => cellD_of (by rw [k.1 r o (h3 r hr), h5 o ho]; rfl)⟩
theorem sx_set {r m : Nat} {w w0 w1 : World} (hr : w.heap.size ≤ r) (h : (∀ b o, b < w0.heap.size → b ≠ r → w1.cell? ⟨b, o, none⟩ = w0.cell? ⟨b, o, none⟩) ∧ (∀ b o, b < w0.heap.size → w1.frozen? ⟨b, o, none⟩ = w0.frozen? ⟨b, o, none⟩) ∧ (∀ k, k < w0.heap.size → k < w1.heap.size) ∧ Since w w1 ∧ (∀ o, o < m → w1.cell? ⟨r, o, none⟩ = some (cellD w1 r o))) (j : Nat) (v : Value) :
    (∀ b o, b < w0.heap.size → b ≠ r → (w1.setCell ⟨r, j, none⟩ v).cell? ⟨b, o, none⟩ = w0.cell? ⟨b, o, none⟩) ∧ (∀ b o, b < w0.heap.size → (w1.setCell ⟨r, j, none⟩ v).frozen? ⟨b, o, none⟩ = w0.frozen? ⟨b, o, none⟩) ∧ (∀ k, k < w0.heap.size → k < (w1.setCell ⟨r, j, none⟩ v).heap.size) ∧ Since w (w1.setCell ⟨r, j, none⟩ v) ∧ (∀ o, o < m → (w1.setCell ⟨r, j, none⟩ v).cell? ⟨r, o, none⟩ = some (cellD (w1.setCell ⟨r, j, none⟩ v) r o)) := by
  obtain ⟨h1, h2, h3, h4, h5⟩ := h
  refine ⟨fun b o hb hne => ?_, fun b o hb => (World.frozen?_setCell _ _ _ _).trans (h2 b o hb), fun k hk => by simpa [World.setCell] using h3 k hk, h4.setCell hr _, fun o ho => ?_⟩
  · rw [cell_set, if_neg (by omega)]; exact h1 b o hb hne
  · refine cellD_of ?_
    rw [cell_set, h5 o ho]
    split <;> rfl

def Pf (x y : Int) (j : Nat) : Value := if j = 0 then .int .i64 x else .int .i64 y
theorem prow (w : World) (b : Nat) (hb : b = w.heap.size) (t : TypeId) (x y : Int) : Row (w.alloc (.cells #[.int .i64 x, .int .i64 y] t)) b 2 (Pf x y) := by
  subst hb
  refine Row.of_cells fun j hj => ?_
  have h : j = 0 ∨ j = 1 := by omega
  rcases h with rfl | rfl <;> rfl
theorem pput {w : World} {b : Nat} {u v : Int} (h : Row w b 2 (Pf u v)) (x y : Int) : Row ((w.setCell ⟨b, 0, none⟩ (.int .i64 x)).setCell ⟨b, 1, none⟩ (.int .i64 y)) b 2 (Pf x y) := by
  refine ((h.set 0 _).set 1 _).congr fun j hj => ?_
  have hh : j = 0 ∨ j = 1 := by omega
  rcases hh with rfl | rfl <;> rfl
theorem pcells {w : World} {b : Nat} {x y : Int} (h : Row w b 2 (Pf x y)) : w.cell? ⟨b, 0, none⟩ = some (.int .i64 x) ∧ w.cell? ⟨b, 1, none⟩ = some (.int .i64 y) ∧ b < w.heap.size := ⟨h.1 0 (by omega), h.1 1 (by omega), h.2.2⟩
theorem pput0 {w : World} {b : Nat} (h : Row w b 2 (Pf 0 0)) (x y : Int) : Row ((w.setCell ⟨b, 0, none⟩ (.int .i64 x)).setCell ⟨b, 1, none⟩ (.int .i64 y)) b 2 (Pf x y) := pput h x y
def Of (v : Value) (_ : Nat) : Value := v
theorem orow (w : World) (b : Nat) (hb : b = w.heap.size) (t : TypeId) (v : Value) : Row (w.alloc (.cells #[v] t)) b 1 (Of v) := by
  subst hb
  refine Row.of_cells fun j hj => ?_
  obtain rfl : j = 0 := by omega
  rfl
theorem oput {w : World} {b : Nat} {u : Value} (h : Row w b 1 (Of u)) (v : Value) : Row (w.setCell ⟨b, 0, none⟩ v) b 1 (Of v) := by
  refine (h.set 0 _).congr fun j hj => ?_
  obtain rfl : j = 0 := by omega
  rfl
theorem oput0 {w : World} {b : Nat} (h : Row w b 1 (Of (.int .i64 0))) (v : Value) : Row (w.setCell ⟨b, 0, none⟩ v) b 1 (Of v) := oput h v
theorem ocell {w : World} {b : Nat} {v : Value} (h : Row w b 1 (Of v)) : w.cell? ⟨b, 0, none⟩ = some v ∧ b < w.heap.size := ⟨h.1 0 (by omega), h.2.2⟩
/-- A row's cells as a range. -/
theorem row_range {w : World} {b n : Nat} {f : Nat → Value} (h : Row w b n f) (cs : List Value) (he : ∀ j v, cs[j]? = some v → j < n ∧ v = f j) : w.rangeAt b 0 cs := fun j v hv => by
  obtain ⟨h1, rfl⟩ := he j v hv
  rw [Nat.zero_add]
  exact h.1 j h1
section
variable {P : Program} {fn : Func} {R : Ending → World → Prop} {a : Act} {w : World}
/-- The end of a function whose one result is a struct in memory. -/
theorem ret_agg {p ty : Nat} {b : Nat} {cs : List Value} {d : TypeDesc} (hf : fn.results = #[.cell p ty]) (hp : a.tmps.getD p undef = .pointer (some ⟨b, 0, none⟩)) (hc : w.rangeAt b 0 cs)
    (hu : P.underlying ty = some d) (hd : d.isRow = true) (hi : (P.info? ty).map (·.size) = some cs.length) (hdf : a.defers = []) (hR : R (.returned (.agg cs.toArray)) w) : bodyPost P fn R .ret a w := by
  refine bodyPost_ret (v := .agg cs.toArray) ?_ hdf hR
  simp only [results, hf]
  have hl := run_loadVar_mid (P := P) w b 0 ty cs d hc hu hd hi
  have hp' : a.tmps[p]?.getD undef = .pointer (some ⟨b, 0, none⟩) := by simpa using hp
  simp [hp', asAddr, hl]
/-- .. and a number behind it. -/
theorem ret_agg_tmp {p q ty : Nat} {b : Nat} {cs : List Value} {d : TypeDesc} {x : Value} (hf : fn.results = #[.cell p ty, .tmp q]) (hp : a.tmps.getD p undef = .pointer (some ⟨b, 0, none⟩)) (hc : w.rangeAt b 0 cs)
    (hu : P.underlying ty = some d) (hd : d.isRow = true) (hi : (P.info? ty).map (·.size) = some cs.length) (hq : a.tmps.getD q undef = x) (hdf : a.defers = []) (hR : R (.returned (.tuple #[.agg cs.toArray, x])) w) : bodyPost P fn R .ret a w := by
  refine bodyPost_ret (v := .tuple #[.agg cs.toArray, x]) ?_ hdf hR
  simp only [results, hf]
  have hl := run_loadVar_mid (P := P) w b 0 ty cs d hc hu hd hi
  have hp' : a.tmps[p]?.getD undef = .pointer (some ⟨b, 0, none⟩) := by simpa using hp
  have hq' : a.tmps[q]?.getD undef = x := by simpa using hq
  simp [hp', asAddr, hl, hq']
end
end Go.Proofs.Ytdbenpncnkfliaa

/-
  Layer 14: 'Piece': its function, and it, walked.
-/
namespace Go.Proofs.Ytdbenpncnkfliaa
open Go.RowKit Go.ChangeShapes Go.WideShapes Go.Deep
set_option linter.unusedVariables false

theorem infoPt0 : (Try.prog.info? 33).map (fun i => (i.zero, i.size, i.bytes)) = some (some (.agg #[.int .i64 0, .int .i64 0]), 2, 16) := by kernel_rfl
theorem infoPt : ∃ i z, Try.prog.info? 33 = some i ∧ i.zero = some z ∧ i.size = 2 ∧ i.bytes = 16 ∧ z.cells.size = 2 := by
  obtain ⟨i0, hi, hz0, hz1, hz2⟩ := info_parts infoPt0
  exact ⟨i0, _, hi, hz0, hz1, hz2, rfl⟩
theorem pt_one (w : World) (b : Nat) (hb : b = w.heap.size) (ty : TypeId) (p : Pq) : RdG 2 ptL (w.alloc (.cells #[.int .i64 p.x, .int .i64 p.y] ty)) (w.alloc (.cells #[.int .i64 p.x, .int .i64 p.y] ty)).heap.size (some ⟨b, 0, none⟩) [p] :=
  rdG_one hb p (fun i hi => by
    have h : i = 0 ∨ i = 1 := by omega
    rcases h with rfl | rfl <;> rfl)
def lastNe (L : List Pq) (p : Pq) : Bool := match L.getLast? with
  | some l => !(l.x == p.x && l.y == p.y)
  | none => true
theorem addP_eq (L : List Pq) (p : Pq) : addP L p = if lastNe L p then L ++ [p] else L := by
  unfold addP lastNe
  cases L.getLast? with
  | none => rfl
  | some l => by_cases h1 : l.x = p.x <;> by_cases h2 : l.y = p.y <;> simp [h1, h2]
/-- A captured list of points. -/
def CapP (w0 w : World) (bl : Nat) (L : List Pq) : Prop := ∃ v, w.heap[bl]? = some (Obj.cells #[v] 51 (0, 0)) ∧ OwnG 33 2 ptL w (bl + 1) v L ∧ Since w0 w ∧ w0.heap.size ≤ bl
theorem CapP.since {w0 w w' : World} {bl : Nat} {L : List Pq} (h : CapP w0 w bl L) (k : Since w w') : CapP w0 w' bl L := by
  obtain ⟨v, h1, h2, h3, h4⟩ := h
  have hlt : bl < w.heap.size := by
    rcases Nat.lt_or_ge bl w.heap.size with h | h
    · exact h
    · rw [Array.getElem?_eq_none h] at h1; cases h1
  exact ⟨v, (k.below.block bl hlt).trans h1, h2.since k, h3.trans k, h4⟩
/-- A row of another type is not the own block. -/
theorem OwnG.ne {α : Type} {enc : α → List Value} {t t' : TypeId} {k base b : Nat} {w : World} {v : Value} {L : List α} {cs : Array Value} (h : OwnG t k enc w base v L) (hne : t ≠ t') (hb : w.heap[b]? = some (Obj.cells cs t' (0, 0))) : v.ownBlock ≠ some b := by
  rcases h.2 with ⟨rfl, _⟩ | ⟨g, cap, cur, rfl, hb', hh, r⟩
  · simp [Value.ownBlock]
  · intro e
    simp only [Value.ownBlock, Option.some.injEq] at e
    subst e
    rw [hb] at hh
    simp only [Option.some.injEq, Obj.cells.injEq] at hh
    exact hne hh.2.1.symm
set_option maxRecDepth 100000 in
set_option maxHeartbeats 8000000 in
theorem fa_piece1 (w0 : World) (bl : Nat) (L : List Pq) (p : Pq) (w : World) (h : CapP w0 w bl L) (hL : L.length ≤ 1000000) :
    Calls Try.prog 54 #[Pt p.x p.y, .pointer (some ⟨bl, 0, none⟩)] w fun e w2 => (∃ v, e = .returned v) ∧ CapP w0 w2 bl (addP L p) ∧ ∀ (b : Nat) (cs : Array Value), w.heap[b]? = some (Obj.cells cs 37 (0, 0)) → w2.heap[b]? = some (Obj.cells cs 37 (0, 0)) := by
  obtain ⟨v, h1, hO, hS, hb⟩ := h
  obtain ⟨x, y⟩ := p
  unfold Pt
  simp only
  have hlt : bl < w.heap.size := by
    rcases Nat.lt_or_ge bl w.heap.size with h | h
    · exact h
    · rw [Array.getElem?_eq_none h] at h1; cases h1
  have hne : 33 ≠ 37 := by decide
  have HLT := Lib.hid hlt
  go_enter Try.func54, Try.ntmps54
  go_upto_region 1 with fail
  refine wp_named fun w2 hw2 => ?_
  have hS2 : Since w w2 := by subst hw2; exact (Since.refl w).alloc _
  have rB : Row w2 w.heap.size 2 (Pf x y) := by subst hw2; exact prow w _ rfl _ _ _
  have h2 := (hS2.below.block bl hlt).trans h1
  have hO2 := hO.since hS2
  clear hw2 hO
  obtain ⟨q, hq⟩ : ∃ q, q = w.heap.size := ⟨_, rfl⟩
  rw [← hq] at rB hlt ⊢
  have hbq : bl ≠ q := by omega
  have hqz : w.heap.size ≤ q := by omega
  clear hq
  obtain ⟨A, c, rfl, hc, hr⟩ := hO2.rd (by omega) ptL_len
  obtain ⟨b1, b2, b3⟩ := pcells rB
  have cB : w2.cell? ⟨bl, 0, none⟩ = some (.slice A L.length c) := by simp [World.cell?, h2]
  have fB : w2.frozen? ⟨bl, 0, none⟩ = false := by simp [World.frozen?, h2]
  have hbl2 := hS2.2.2.1 _ HLT.out
  go_cut [15] (fun z wx => z = .bool (lastNe L ⟨x, y⟩) ∧ wx = w2.drew)
  case first =>
    cases hg : L.getLast? with
    | none =>
      obtain rfl : L = [] := by simpa using hg
      have e0 : lastNe [] ⟨x, y⟩ = true := rfl
      have E0 := Lib.hid e0
      clear e0 hr hO2 h1 h2
      go_region
      all_goals (go_wp2_with fail)
      all_goals go_meet
      all_goals exact ⟨by rw [E0.out], rfl⟩
    | some l =>
      have hm : 0 < L.length := by cases L with | nil => simp at hg | cons a r => simp
      have hget : L[L.length - 1]? = some l := by rw [← List.getLast?_eq_getElem?]; exact hg
      have e0 : lastNe L ⟨x, y⟩ = !(l.x == x && l.y == y) := by unfold lastNe; rw [hg]
      have E0 := Lib.hid e0
      obtain ⟨g, go', rfl, hgb, hcell⟩ := hr hm
      have l1 := hcell _ _ hget 0 (by omega)
      have l2 := hcell _ _ hget 1 (by omega)
      simp only [ptL, List.getD_cons_succ, List.getD_cons_zero, Nat.add_zero] at l1 l2
      obtain ⟨lx, ly⟩ := l
      simp only at l1 l2 E0
      obtain ⟨m, hmm⟩ : ∃ m, m = L.length := ⟨_, rfl⟩
      rw [← hmm] at hm l1 l2 cB hL
      have q1 : IntKind.i64.wrap ((m : Int) - 1) = (m : Int) - 1 := IntWalk.i64_in _ (by omega)
      have q2 : (0 : Int) ≤ (m : Int) - 1 := by omega
      have q3 : ((m : Int) - 1).toNat = m - 1 := by omega
      have q4 : (m : Int) - 1 < (m : Int) := by omega
      have q5 : (1 : Int) ≤ (m : Int) := by omega
      have q6 : ((m : Int) == 0) = false := by simp; omega
      clear e0 hcell hget hg hr hO2 h1 h2 hmm
      by_cases e1 : lx = x
      · by_cases e2 : ly = y
        · subst e1 e2
          go_region
          all_goals (go_wp2_with fail)
          all_goals go_meet
          all_goals exact ⟨by rw [E0.out]; simp, rfl⟩
        · subst e1
          have e3 : (ly == y) = false := by simp [e2]
          go_region
          all_goals (go_wp2_with fail)
          all_goals go_meet
          all_goals exact ⟨by rw [E0.out]; simp [e3], rfl⟩
      · have e3 : (lx == x) = false := by simp [e1]
        go_region
        all_goals (go_wp2_with fail)
        all_goals go_meet
        all_goals exact ⟨by rw [E0.out]; simp [e3], rfl⟩
  obtain ⟨hz, hw⟩ := hcut
  subst hz hw
  cases hln : lastNe L ⟨x, y⟩
  · have he : addP L ⟨x, y⟩ = L := by rw [addP_eq, hln]; rfl
    have HE := Lib.hid he
    clear he
    go_wp2_with fail
    refine bodyPost_end (results_none rfl _ _ _) rfl ?_
    refine ⟨⟨_, rfl⟩, by rw [HE.out]; exact ⟨_, h2, hO2, (hS.trans hS2).drew, hb⟩, fun b cs hbc => ?_⟩
    have hbl : b < w.heap.size := by
      rcases Nat.lt_or_ge b w.heap.size with h | h
      · exact h
      · rw [Array.getElem?_eq_none h] at hbc; cases hbc
    exact (hS2.below.block b hbl).trans hbc
  · have he : addP L ⟨x, y⟩ = L ++ [⟨x, y⟩] := by rw [addP_eq, hln]; rfl
    have HE := Lib.hid he
    clear he
    have h1' := Lib.hid h1
    have h2' := Lib.hid h2
    clear h1 h2
    have cB' : w2.drew.cell? ⟨bl, 0, none⟩ = some (.slice A L.length c) := cB
    go_wp2_with (at_builtin; refine wpList_append_g rfl _ _ 51 33 rfl (by omega) ptL_len ptL_one 16 Try.underlying51 infoPt (bl + 1) _ L rfl (OwnG.alloc (show OwnG 33 2 ptL w2.drew (bl + 1) (.slice A L.length c) L from hO2) _) _ _ 1 [⟨x, y⟩] rfl (pt_one w2.drew _ rfl _ ⟨x, y⟩) (by simp only [List.length_cons, List.length_nil]; omega) (by simp only [List.length_cons, List.length_nil, maxLen]; omega) (by simp; omega) ?_; intro v7 w7 hO7 hg7 hb7; have c7 := cell_grown (show (w2.drew.alloc (.cells #[.int .i64 x, .int .i64 y] 33)).cell? ⟨bl, 0, none⟩ = some (.slice A L.length c) from (World.cell?_alloc_lt w2.drew _ ⟨bl, 0, none⟩ hbl2).trans cB) (by simp; omega) hg7 (fun e => by have := (hb7 _ e).1; omega); have f7 : w7.frozen? ⟨bl, 0, none⟩ = false := (by rw [← fB]; exact World.frozen?_of_block ((hg7.block bl (by simp; omega) (fun e => by have := (hb7 _ e.symm).1; omega)).trans (((Since.refl w2.drew).alloc _).below.block bl hbl2))); obtain ⟨A7, c7, rfl, hc7, hr7⟩ := hO7.rd (by omega) ptL_len)
    refine bodyPost_end (results_none rfl _ _ _) rfl ?_
    replace hg7 : (w2.alloc (.cells #[.int .i64 x, .int .i64 y] 33)).drew.grownBy w7 (Value.slice A L.length c).ownBlock := hg7
    replace hb7 : ∀ q1, (Value.slice A L.length c).ownBlock = some q1 → bl + 1 ≤ q1 := fun q1 e => (hb7 q1 e).1
    have hk2 : ∀ b, b < w2.heap.size → (Value.slice A L.length c).ownBlock ≠ some b → w7.heap[b]? = w2.heap[b]? := fun b hb1 hb2 =>
      (hg7.block b (by simp; omega) (fun e => hb2 e.symm)).trans (((Since.refl w2).alloc (.cells #[.int .i64 x, .int .i64 y] 33)).below.block b hb1)
    have hnb : (Value.slice A L.length c).ownBlock ≠ some bl := fun e => by have := hb7 _ e; omega
    have h7 := (hk2 bl hbl2 hnb).trans h2'.out
    have hl7 : bl < w7.heap.size := by
      rcases Nat.lt_or_ge bl w7.heap.size with h | h
      · exact h
      · rw [Array.getElem?_eq_none h] at h7; cases h7
    refine ⟨⟨_, rfl⟩, ⟨_, heap_setCell_same w7 bl 0 _ _ _ h7, ?_, ?_, hb⟩, fun b cs hbc => ?_⟩
    · rw [HE.out]
      simp only [List.length_append, List.length_cons, List.length_nil] at hO7
      exact hO7.keep (fun b hb1 hb2 => heap_setCell_other _ _ _ _ (by simp only; omega))
    · refine Since.setCell (since_grown (((hS.trans hS2).alloc _).drew) hg7 (fun k e => by have := hb7 k e; omega)) (by simp only; omega) _
    · have hbl : b < w.heap.size := by
        rcases Nat.lt_or_ge b w.heap.size with h | h
        · exact h
        · rw [Array.getElem?_eq_none h] at hbc; cases hbc
      have hb3 := (hS2.below.block b hbl).trans hbc
      have hbn : b ≠ bl := fun e => by
        rw [e, h1'.out] at hbc
        simp at hbc
      refine (heap_setCell_other _ _ _ _ (by simp only; omega)).trans ((hk2 b (by have := hS2.below.size; omega) ?_).trans hb3)
      exact hO2.ne hne hb3
end Go.Proofs.Ytdbenpncnkfliaa

/-
  Layer 14: 'walk' at a piece out of range.
-/
namespace Go.Proofs.Ytdbenpncnkfliaa
open Go.RowKit Go.ChangeShapes Go.WideShapes Go.Deep
set_option linter.unusedVariables false

theorem at0_no (s : Sg) (n : Nat) (hn : n ≤ 9) (h : inR s = false) : atOK s 0 (n : Int) = false ∧ atE s 0 (n : Int) = 6 := by
  have ha : argOK 0 (n : Int) = true := by
    have hp := pow_le9 hn
    have e : (2 : Int) ^ n = ((2 ^ n : Nat) : Int) := by simp
    unfold argOK
    rw [Int.toNat_natCast, e]
    simp
    omega
  unfold atOK atE
  rw [ha, h]
  exact ⟨rfl, rfl⟩
set_option maxRecDepth 100000 in
set_option maxHeartbeats 8000000 in
theorem fa_walk_no (s : Sg) (hs : s.wf) (F : Nat) (cap : Array Value) (w : World) (hok : inR s = false) :
    Calls Try.prog 53 #[s.v, .func (.func F) #[] cap] w fun e w' => e = .returned (.int .i64 6) ∧ Since w w' := by
  have hst := fun w => qu_steps s hs w
  have hn9 := stN_le s
  have h0 := at0_no s (stN s) hn9 hok
  have hrd := fun w => qu_round_no s hs 0 (stN s : Int) (by unfold In64; omega) (by have := stN_le s; unfold In64; omega) h0.1 w
  rw [h0.2] at hrd
  have hp9 := pow_le9 hn9
  unfold Pt at hrd
  obtain ⟨n, hn⟩ : ∃ n, n = stN s := ⟨_, rfl⟩
  change ∀ w, Calls Try.prog 62 #[s.v] w fun e w' => e = .returned (.int .i64 (stN s : Nat)) ∧ Since w w' at hst
  rw [← hn] at hst hrd hn9 hp9
  clear hn hok h0
  have HST := Lib.hid hst
  have HRD := Lib.hid hrd
  clear hst hrd hs
  obtain ⟨m, hm⟩ : ∃ m, m = 2 ^ n := ⟨_, rfl⟩
  have hmI : (2 : Int) ^ n = (m : Int) := by rw [hm]; simp
  have hw1 : wrap64 ((2 : Int) ^ n) = (m : Int) := by rw [hmI]; unfold wrap64; omega
  have hw2 : wrap64 ((m : Int) + 1) = (m : Int) + 1 := by unfold wrap64; omega
  have hw3 : IntKind.i64.wrap ((m : Int) + 1) = (m : Int) + 1 := IntWalk.i64_in _ (by omega)
  rw [← hm] at hp9
  clear hm hmI
  unfold Sg.v at *
  go_enter Try.func53, Try.ntmps53
  go_upto_region 2 with (go_at_call 62; (with_reducible refine (HST.out _).mono ?_); rintro e w1 ⟨rfl, hS1⟩)
  refine wp_named fun w2 hw2 => ?_
  have hseg : w2.heap[w.heap.size]? = some (Obj.cells #[.int .i64 s.ax, .int .i64 s.ay, .int .i64 s.cx, .int .i64 s.cy, .int .i64 s.bx, .int .i64 s.bz, .bool s.k] 37 (0, 0)) := by
    subst hw2
    rw [hS1.below.block w.heap.size (by simp)]
    exact heap_alloc_new w _
  have hS2 : Since w w2 := by subst hw2; exact ((Since.refl w).alloc _).trans hS1
  clear hw2 hS1
  obtain ⟨q, hq⟩ : ∃ q, q = w.heap.size := ⟨_, rfl⟩
  rw [← hq] at hseg ⊢
  clear hq
  go_wp2_with fail
  rw [hw1]
  clear hw1
  go_loopw [14] (fun y wr => y = .int .i64 0 ∧ Since w wr ∧ wr.heap[q]? = some (Obj.cells #[.int .i64 s.ax, .int .i64 s.ay, .int .i64 s.cx, .int .i64 s.cy, .int .i64 s.bx, .int .i64 s.bz, .bool s.k] 37 (0, 0))) (fun y _ => m + 1 - (intOf y).toNat)
  case atStart => exact ⟨rfl, hS2, hseg⟩
  case round =>
    obtain ⟨rfl, hSr, hsg⟩ := hrel
    have hkm' : (0 : Int) < (m : Int) + 1 := by omega
    have c0 : wr.cell? ⟨q, 0, none⟩ = some (.int .i64 s.ax) := by simp [World.cell?, hsg]
    have c1 : wr.cell? ⟨q, 1, none⟩ = some (.int .i64 s.ay) := by simp [World.cell?, hsg]
    have c2 : wr.cell? ⟨q, 2, none⟩ = some (.int .i64 s.cx) := by simp [World.cell?, hsg]
    have c3 : wr.cell? ⟨q, 3, none⟩ = some (.int .i64 s.cy) := by simp [World.cell?, hsg]
    have c4 : wr.cell? ⟨q, 4, none⟩ = some (.int .i64 s.bx) := by simp [World.cell?, hsg]
    have c5 : wr.cell? ⟨q, 5, none⟩ = some (.int .i64 s.bz) := by simp [World.cell?, hsg]
    have c6 : wr.cell? ⟨q, 6, none⟩ = some (.bool s.k) := by simp [World.cell?, hsg]
    have HSR := Lib.hid hSr
    clear hsg HST hSr hS2 hseg
    go_wp2_with (go_at_call 63; (with_reducible refine (HRD.out _).mono ?_); rintro e w4 ⟨rfl, hS4⟩)
    go_ret
    exact ⟨rfl, (HSR.out.trans hS4).alloc _⟩
end Go.Proofs.Ytdbenpncnkfliaa

/-
  Layer 14: 'Piece'.
-/
namespace Go.Proofs.Ytdbenpncnkfliaa
open Go.RowKit Go.ChangeShapes Go.WideShapes Go.Deep
set_option linter.unusedVariables false

theorem addP_len (L : List Pq) (p : Pq) : (addP L p).length ≤ L.length + 1 := by
  rw [addP_eq]
  split <;> simp
theorem ptsN_len (s : Sg) (n : Nat) : ∀ k, (ptsN s n k).length ≤ k
  | 0 => by simp [ptsN]
  | k + 1 => by have := addP_len (ptsN s n k) (rndP s n k); have := ptsN_len s n k; simp only [ptsN]; omega
theorem piece1_enter (args : Array Value) (w : World) : (callFunc 54 args).run Try.prog w = .ok (.enter 54 args) w := rfl
theorem OwnG.lower' {α : Type} {enc : α → List Value} {t : TypeId} {k base base' : Nat} {w : World} {v : Value} {L : List α} (h : OwnG t k enc w base v L) (hb : base' ≤ base) : OwnG t k enc w base' v L := by
  refine ⟨h.1, ?_⟩
  rcases h.2 with h0 | ⟨g, cap, cur, e1, hb', r⟩
  · exact .inl h0
  · exact .inr ⟨g, cap, cur, e1, by omega, r⟩
/-- The closure is a step. -/
theorem piece1_step (s : Sg) (w0 : World) (bl : Nat) (k : Nat) (hk : k ≤ 2 ^ stN s) : Step 54 #[.pointer (some ⟨bl, 0, none⟩)] s (fun k w => CapP w0 w bl (ptsN s (stN s) k)) k := fun w1 h => by
  have hp := pow_le9 (stN_le s)
  have hl := ptsN_len s (stN s) k
  exact fa_piece1 w0 bl _ (rndP s (stN s) k) w1 h (by omega)
set_option maxRecDepth 100000 in
set_option maxHeartbeats 8000000 in
theorem fa_piece_yes (s : Sg) (hs : s.wf) (w : World) (hok : inR s = true) :
    Calls Try.prog 31 #[s.v] w fun e w' => ∃ v, e = .returned (.tuple #[v, .int .i64 0]) ∧ OwnG 33 2 ptL w' w.heap.size v (ptsN s (stN s) (2 ^ stN s + 1)) ∧ Since w w' := by
  have hwk := fun (w0 : World) (bl : Nat) (w1 : World) (h0 : CapP w0 w1 bl []) => fa_walk s hs 54 #[.pointer (some ⟨bl, 0, none⟩)] (fun k w => CapP w0 w bl (ptsN s (stN s) k)) w1 piece1_enter h0 (fun k w1 w2 h k2 => h.since k2) hok (fun k hk => piece1_step s w0 bl k hk)
  generalize ptsN s (stN s) (2 ^ stN s + 1) = L at *
  have HWK := Lib.hid hwk
  clear hwk hs hok
  have h0 : ∀ o, CapP w ((w.alloc o).alloc (.cells #[.slice none 0 0] 51)) (w.heap.size + 1) [] := fun o =>
    ⟨_, by have h := heap_alloc_new (w.alloc o) (.cells #[.slice none 0 0] 51); simpa using h, OwnG.nil _ _ _ _ _, ((Since.refl w).alloc _).alloc _, by omega⟩
  have H0 := Lib.hid h0
  clear h0
  unfold Sg.v at *
  go_enter Try.func31, Try.ntmps31
  go_wp2_with (refine (HWK.out w _ _ (H0.out _)).mono ?_; rintro e w3 ⟨rfl, v3, h3, hO3, hS3, hb3⟩; have c3 : w3.cell? ⟨w.heap.size + 1, 0, none⟩ = some v3 := (by simp [World.cell?, h3]))
  refine bodyPost_ret (results_tmp2 rfl _ _ _) rfl ?_
  exact ⟨v3, rfl, OwnG.lower' hO3 (by omega), hS3⟩
set_option maxRecDepth 100000 in
set_option maxHeartbeats 8000000 in
theorem fa_piece_no (s : Sg) (hs : s.wf) (w : World) (hok : inR s = false) :
    Calls Try.prog 31 #[s.v] w fun e w' => e = .returned (.tuple #[.slice none 0 0, .int .i64 6]) ∧ Since w w' := by
  have hwk := fun (bl : Nat) (w1 : World) => fa_walk_no s hs 54 #[.pointer (some ⟨bl, 0, none⟩)] w1 hok
  have HWK := Lib.hid hwk
  clear hwk hs hok
  unfold Sg.v at *
  go_enter Try.func31, Try.ntmps31
  go_wp2_with (refine (HWK.out _ _).mono ?_; rintro e w3 ⟨rfl, hS3⟩)
  refine bodyPost_ret (results_tmp2 rfl _ _ _) rfl ?_
  exact ⟨rfl, (((Since.refl w).alloc _).alloc _).trans hS3⟩
end Go.Proofs.Ytdbenpncnkfliaa
