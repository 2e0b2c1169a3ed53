/-
  append to a row of the call's own that may be nil, of a source that may be nil; a slice of slices of whole numbers that came in.
-/
import Derived.Test.YtpplnapfpoloiaaKit4
import Derived.Deep.Matrix
namespace Go.Proofs.Ytpplnapfpoloiaa
open Go.RowKit Go.ChangeShapes Go.WideShapes Go.Deep
section
variable {P : Program} (w : World)
theorem run_append_any (base : Nat) (t ty e : TypeId) (i : TypeInfo) (z : Value) (bytes : Nat) (ht : P.underlying t = some (.slice e)) (hi : P.info? e = some i) (hz : i.zero = some z)
    (hsize : i.size = 1) (hby : i.bytes = bytes) (hzs : z.cells.size = 1) (v : Value) (n : Nat) (xs : List Value) (hown : w.ownsRow base e 1 v n xs)
    (B : Nat) (A : Option Addr) (m c : Nat) (V : Nat → Value) (hr : Rd w B A m V) (h1 : ∀ u ∈ tab m V, u.oneCell' = true) (hbytes : (n + m) * bytes ≤ 140737488355328) (h63 : n + m ≤ maxLen) (hbase : base ≤ w.heap.size) :
    ∃ v' w', (Builtin.append_ #[t, t] ty #[v, .slice A m c]).run P w = .ok v' w' ∧ w'.ownsRow base e 1 v' (n + m) (xs ++ tab m V) ∧ w.grownBy w' v.ownBlock := by
  rcases A with _ | ad
  · have hm : m = 0 := by
      rcases Nat.eq_zero_or_pos m with h0 | h0
      · exact h0
      · obtain ⟨b, o, h, _⟩ := hr h0; cases h
    subst hm
    refine ⟨v, w, ?_, by simpa [tab_zero] using hown, World.grownBy.refl w _⟩
    rcases hown.2 with ⟨rfl, hx⟩ | ⟨g, cap, cur, rfl, _, _, hnc, _⟩
    · have hn : n = 0 := by have h1 := hown.1; rw [hx] at h1; simp at h1; omega
      subst hn
      simp [Builtin.append_, run_underlying ht, sizeOf, typeInfo, hi, Builtin.lenOf, Builtin.firstCells]
    · simp [Builtin.append_, run_underlying ht, sizeOf, typeInfo, hi, Builtin.lenOf, Builtin.firstCells, hnc, storeCells]
  · have hc : ∀ j u, (tab m V)[j]? = some u → w.cell? (ad.add j) = some u := by
      intro j u hu
      rw [tab_get] at hu
      split at hu
      · rename_i hj
        obtain ⟨b, o, h, _, hc⟩ := hr (by omega)
        injection h with h; subst h; injection hu with hu; subst hu
        rw [← hc j hj]
        unfold Addr.add; split <;> simp_all
      · cases hu
    obtain ⟨v', w', hrun, h2, h3, _⟩ := run_append_own (P := P) w base t ty e i z 1 bytes ht hi hz hsize hby hzs (by omega) v n xs hown ad m c (tab m V) (by rw [tab_len]; omega) hc h1 h63 hbytes hbase
    exact ⟨v', w', hrun, h2, h3⟩
theorem wpList_append_any {ops : Array Oper} {rest : List Oper} {o : Oper} {a : Act} {Q : Exit → Act → World → Prop} (hgd : o.guard = none) (s x : Operand) (t : TypeId)
    (ho : o.op = .call { callee := .builtin .append, args := #[s, x], argTypes := #[t, t] })
    (base : Nat) (e : TypeId) (i : TypeInfo) (z : Value) (bytes : Nat) (ht : P.underlying t = some (.slice e)) (hi : P.info? e = some i) (hz : i.zero = some z)
    (hsize : i.size = 1) (hby : i.bytes = bytes) (hzs : z.cells.size = 1) (v : Value) (n : Nat) (xs : List Value) (hs : a.eval s = v) (hown : w.ownsRow base e 1 v n xs)
    (B : Nat) (A : Option Addr) (m c : Nat) (V : Nat → Value) (hx : a.eval x = .slice A m c) (hr : Rd w B A m V) (h1 : ∀ u ∈ tab m V, u.oneCell' = true) (hbytes : (n + m) * bytes ≤ 140737488355328) (h63 : n + m ≤ maxLen) (hbase : base ≤ w.heap.size)
    (h : ∀ v' w', w'.ownsRow base e 1 v' (n + m) (xs ++ tab m V) → w.grownBy w' v.ownBlock → wpList P ops Q rest (a.put o.dst v') w') :
    wpList P ops Q (o :: rest) a w := by
  refine wpList_plain hgd fun K hK => ?_
  obtain ⟨v', w', hr, h2, h3⟩ := run_append_any (P := P) w base t o.type e i z bytes ht hi hz hsize hby hzs v n xs hown B A m c V hr h1 hbytes h63 hbase
  unfold Oper.wp execOp
  simp only [ho, resolve, invoke, builtin, Sem.run_bind, Sem.run_pure, Result.andThen_ok, List.map_toArray, List.map_cons, List.map_nil, hs, hx, hr]
  exact hK _ _ (h v' w' h2 h3)
end
/-- What an own row, nil let in, reads as. -/
theorem own_any {w : World} {base : Nat} {e : TypeId} {v : Value} {n : Nat} {V : Nat → Value} (h : w.ownsRow base e 1 v n (tab n V)) : ∃ A c, v = .slice A n c ∧ n ≤ c ∧ Rd w w.heap.size A n V ∧ (∀ k, v.ownBlock = some k → base ≤ k) := by
  rcases h.2 with ⟨rfl, hx⟩ | ⟨g, cap, cur, rfl, hb, hh, hnc, _⟩
  · have hn : n = 0 := by have h1 := h.1; rw [hx] at h1; simp at h1; omega
    subst hn
    exact ⟨none, 0, rfl, Nat.le_refl _, Rd.zero, fun k hk => by cases hk⟩
  · exact ⟨_, cap, rfl, hnc, Rd.of_row (row_of_own h), fun k hk => by simp [Value.ownBlock] at hk; omega⟩

section
variable {H : Type} {enc : TypeId × Value → H} {P : Program} {W : World}
theorem rd_of_places {a : Addr} {n len : Nat} {V : Nat → Value} {ps : List MemPlace} (hps : MemPlace.row a len = ps) (hlt : ∀ x ∈ ps, x.block < W.heap.size) (hn : n ≤ len) (hc : ∀ i, i < n → W.cell? (a.add i) = some (V i)) : Rd W W.heap.size (some a) n V := fun h0 => by
  have hspot : a.spot = none := by
    have h0 := hc 0 h0
    cases hsp : a.spot with
    | none => rfl
    | some s =>
      have e : (a.add 0).spot = some s := by unfold Addr.add; split <;> simp_all
      simp only [World.cell?] at h0
      split at h0
      · simp [e] at h0
      · cases h0
  obtain ⟨b, o, s⟩ := a
  simp only at hspot
  subst hspot
  subst hps
  refine ⟨b, o, rfl, hlt (.cell b (o + 0)) (MemPlace.mem_row.2 ⟨0, by omega, rfl⟩), fun j hj => ?_⟩
  rw [← add_plain]
  exact hc j hj
/-- A slice of slices of whole numbers that came in. -/
theorem open_rows {t e q : TypeId} {k : IntKind} {r : Reach} {b0 : Nat} {v : Value} {d : DataW H} {ps : List MemPlace} (ht : P.underlying t = some (.slice e)) (he : P.underlying e = some (.slice q)) (hq : P.underlying q = some (.int k)) (ce : P.cellsOf e = 1) (cq : P.cellsOf q = 1)
    (hval : Value.okWide P W r b0 t v) (h : DataW.Trod enc P W 0 (fun _ => true) true t v d ps) (hlt : ∀ x ∈ ps, x.block < W.heap.size) :
    ∃ (A : Option Addr) (n c : Nat) (AA : Nat → Option Addr) (LL CC : Nat → Nat) (Z : Nat → Nat → Int), v = .slice A n c ∧ n ≤ c ∧ c ≤ maxLen ∧ Rd W W.heap.size A n (fun j => .slice (AA j) (LL j) (CC j)) ∧
      ∀ j, j < n → LL j ≤ CC j ∧ CC j ≤ maxLen ∧ Rd W W.heap.size (AA j) (LL j) (IntRow k (Z j)) ∧ ∀ i, i < LL j → (Lit.int k (Z j i)).wf = true := by
  obtain ⟨A, n, c, rfl⟩ := okWide_slice ht hval
  obtain ⟨fuel, hf⟩ := h
  rcases open_int_rows ht he hq ce cq hf with ⟨hcs, hx⟩ | ⟨a, len, cap, AA, LL, CC, Z, hcs, _, hl, hm, hx, hall⟩
  · simp [Value.cells] at hcs
    obtain ⟨rfl, rfl, rfl⟩ := hcs
    exact ⟨none, 0, 0, fun _ => none, fun _ => 0, fun _ => 0, fun _ _ => 0, rfl, Nat.le_refl _, Nat.zero_le _, Rd.zero, fun j hj => absurd hj (by omega)⟩
  · simp [Value.cells] at hcs
    obtain ⟨rfl, rfl, rfl⟩ := hcs
    simp only [Prod.mk.injEq] at hx
    obtain ⟨rfl, rfl⟩ := hx
    refine ⟨some a, n, c, AA, LL, CC, fun j i => (Z j).getD i 0, rfl, hl, hm, rd_of_places rfl (fun x hx => hlt x (List.mem_append_left _ hx)) hl (fun i hi => (hall i (by omega)).1), fun j hj => ?_⟩
    obtain ⟨_, h2, h3, h4, h5, h6, h7⟩ := hall j (by omega)
    refine ⟨h2, h3, ?_, fun i hi => ?_⟩
    · cases hA : AA j with
      | none =>
        have := h6 hA
        have hL0 : LL j = 0 := by omega
        rw [hL0]
        exact Rd.zero
      | some a' =>
        refine rd_of_places (len := (Z j).length) rfl (fun x hx => hlt x (List.mem_append_right _ (List.mem_flatMap.2 ⟨j, by simp; omega, by unfold intRowPlaces; rw [hA]; exact hx⟩))) (by omega) (fun i hi => ?_)
        exact (h7 a' hA).2 i (by omega)
    · have hi' : i < (Z j).length := by omega
      have e : (Z j).getD i 0 = (Z j)[i] := by simp [List.getD, hi']
      show (Lit.int k ((Z j).getD i 0)).wf = true
      rw [e]
      exact h5 _ (List.getElem_mem hi')
end
end Go.Proofs.Ytpplnapfpoloiaa
