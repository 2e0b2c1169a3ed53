/-
  An outline that came in.
-/
import Derived.Test.YtcjjcjpkmjbfkaaOuP
import Derived.Test.YtcjjcjpkmjbfkaaMhC
import Derived.Test.YtcjjcjpkmjbfkaaMhB
namespace Go.Proofs.Ytcjjcjpkmjbfkaa
open Go.RowKit Go.ChangeShapes Go.WideShapes Go.Deep
set_option linter.unusedVariables false
theorem rdOL_none (w : World) (B : Nat) : RdOL w B none [] := ⟨[], rfl, RdG.nil, fun j h L h1 h2 => by simp at h1⟩
section
variable {H : Type} {enc : TypeId × Value → H} {P : Program} {W : World}
theorem open_flat2 {t e : TypeId} {k : Nat} {v : Value} {d : DataW H} {ps : List MemPlace} (ht : P.underlying t = some (.slice e)) (ce : P.cellsOf e = k) (hk : 0 < k)
    (hval : ∃ A n c, v = .slice A n c) (h : DataW.Trod enc P W 0 (fun _ => true) true t v d ps) (hlt : ∀ x ∈ ps, x.block < W.heap.size) :
    ∃ (A : Option Addr) (n c : Nat) (V : Nat → Value), v = .slice A n c ∧ n ≤ c ∧ c ≤ maxLen ∧ Rd W W.heap.size A (n * k) V ∧ (∀ i, i < n → ∃ m x, DataW.trod enc P W 0 (fun _ => true) true m e (tab k (fun j => V (i * k + j))) = some x) ∧ (c = 0 ∨ ∃ el sp, d = .slice el sp ∧ el.length + sp.length = c) := by
  obtain ⟨A, n, c, rfl⟩ := hval
  obtain ⟨fuel, hf⟩ := h
  rcases open_slice ht hf with ⟨hcs, hx⟩ | ⟨a, len, cap, m, z, D, Pl, hcs, _, hl, hm, hmm, hx, hall⟩
  · simp [Value.cells] at hcs
    obtain ⟨rfl, rfl, rfl⟩ := hcs
    exact ⟨none, 0, 0, fun _ => undef, rfl, Nat.le_refl _, Nat.zero_le _, by rw [Nat.zero_mul]; exact Rd.zero, fun j hj => absurd hj (by omega), .inl rfl⟩
  · simp [Value.cells] at hcs
    obtain ⟨rfl, rfl, rfl⟩ := hcs
    simp only [if_true] at hmm
    subst hmm
    simp only [Prod.mk.injEq] at hx
    obtain ⟨rfl, rfl⟩ := hx
    have each : ∀ j, j < m → ∃ cs : List Value, cs.length = k ∧ (∀ i, i < k → W.cell? (a.add (j * k + i)) = cs[i]?) ∧ ∃ m' x, DataW.trod enc P W 0 (fun _ => true) true m' e cs = some x := by
      intro j hj
      obtain ⟨cs', g1, g2⟩ := hall j hj
      rw [ce] at g1
      obtain ⟨_, hlen, hcell⟩ := World.cells?_some g1
      refine ⟨cs', hlen, fun i hi => ?_, _, _, g2⟩
      have c0 := hcell i (by omega)
      rw [add_add] at c0
      exact c0
    obtain ⟨q, hq⟩ := choose_lt each
    have hV : ∀ j, j < m → ∀ i, i < k → W.cell? (a.add (j * k + i)) = some ((q j).getD i undef) := fun j hj i hi => by
      obtain ⟨h1, h2, _⟩ := hq j hj
      rw [h2 i hi, List.getElem?_eq_getElem (by omega)]
      simp [List.getD, show i < (q j).length by omega]
    refine ⟨some a, n, m, fun j => (q (j / k)).getD (j % k) undef, rfl, hl, hm, ?_, fun i hi => ?_, .inr ⟨_, _, rfl, ?_⟩⟩
    · intro hn
      have hspot : a.spot = none := by
        have h0 := hV 0 (by rcases Nat.eq_zero_or_pos m with h0 | h0 <;> (try subst h0) <;> (try simp at hl) <;> (try subst hl) <;> (try simp at hn) <;> omega) 0 hk
        rw [Nat.zero_mul, Nat.add_zero] at h0
        cases hsp : a.spot with
        | none => rfl
        | some s =>
          have e : (a.add 0).spot = some s := by unfold Addr.add; split <;> simp_all
          simp only [World.cell?] at h0
          split at h0
          · simp [e] at h0
          · cases h0
      obtain ⟨b, o, s⟩ := a
      simp only at hspot
      subst hspot
      have hmk : 0 < m * k := Nat.lt_of_lt_of_le hn (Nat.mul_le_mul_right _ hl)
      refine ⟨b, o, rfl, hlt (.cell b (o + 0)) (List.mem_append_left _ (MemPlace.mem_row.2 ⟨0, by rw [ce]; exact hmk, rfl⟩)), fun j hj => ?_⟩
      have hjk : j / k < m := by rw [Nat.div_lt_iff_lt_mul hk]; exact Nat.lt_of_lt_of_le hj (Nat.mul_le_mul_right _ hl)
      have h1 := hV (j / k) hjk (j % k) (Nat.mod_lt _ hk)
      rw [Nat.div_add_mod' j k] at h1
      rw [← add_plain]
      exact h1
    · obtain ⟨h1, h2, m', x, h3⟩ := hq i (by omega)
      refine ⟨m', x, ?_⟩
      rw [← h3]
      congr 1
      apply List.ext_getElem?
      intro j
      rw [tab_get]
      split
      · rename_i hj
        have e1 : (i * k + j) / k = i := by rw [Nat.add_comm, Nat.add_mul_div_right _ _ hk, Nat.div_eq_of_lt hj, Nat.zero_add]
        have e2 : (i * k + j) % k = j := by rw [Nat.add_comm, Nat.add_mul_mod_self_right, Nat.mod_eq_of_lt hj]
        simp only [e1, e2]
        rw [List.getElem?_eq_getElem (by omega)]
        simp [List.getD, show j < (q i).length by omega]
      · rw [List.getElem?_eq_none (by omega)]
    · simp; omega
theorem open_knots2 {t e t0 t2 : TypeId} {v : Value} {d : DataW H} {ps : List MemPlace} (ht : P.underlying t = some (.slice e)) (ce : P.cellsOf e = 3) (l0 : leafAt P 6 e 0 = some t0) (l1 : leafAt P 6 e 1 = some t0) (l2 : leafAt P 6 e 2 = some t2) (k0 : P.underlying t0 = some (.int .i64)) (k2 : P.underlying t2 = some .bool)
    (hval : ∃ A n c, v = .slice A n c) (h : DataW.Trod enc P W 0 (fun _ => true) true t v d ps) (hlt : ∀ x ∈ ps, x.block < W.heap.size) :
    ∃ (A : Option Addr) (n c : Nat) (X Y : Nat → Int) (O : Nat → Bool), v = .slice A n c ∧ n ≤ c ∧ c ≤ maxLen ∧ RdK W W.heap.size A n X Y O ∧ (∀ j, j < n → InP (X j) (Y j)) ∧ (c = 0 ∨ ∃ el sp, d = .slice el sp ∧ el.length + sp.length = c) := by
  obtain ⟨A, n, c, V, rfl, hnc, hcm, hr, hall, hz⟩ := open_flat2 ht ce (by omega) hval h hlt
  have each : ∀ i, i < n → (V (i * 3) = .int .i64 (numK (V (i * 3))) ∧ In64 (numK (V (i * 3)))) ∧ (V (i * 3 + 1) = .int .i64 (numK (V (i * 3 + 1))) ∧ In64 (numK (V (i * 3 + 1)))) ∧ V (i * 3 + 2) = .bool (boolK (V (i * 3 + 2))) := fun i hi => by
    obtain ⟨m, x, hx⟩ := hall i hi
    obtain ⟨u0, m0, y0, a1, a2, _⟩ := leaf_at 6 e t0 0 l0 m _ x hx
    obtain ⟨u1, m1, y1, b1, b2, _⟩ := leaf_at 6 e t0 1 l1 m _ x hx
    obtain ⟨u2, m2, y2, c1, c2, _⟩ := leaf_at 6 e t2 2 l2 m _ x hx
    obtain ⟨p, ep, _, wp⟩ := DataW.trod_int k0 a2
    obtain ⟨q, eq, _, wq⟩ := DataW.trod_int k0 b2
    obtain ⟨s, es, _⟩ := DataW.trod_bool k2 c2
    injection ep with ep
    injection eq with eq
    injection es with es
    rw [tab_get, if_pos (by omega)] at a1 b1 c1
    injection a1 with a1
    injection b1 with b1
    injection c1 with c1
    rw [Nat.add_zero] at a1
    subst ep; subst eq; subst es
    rw [a1, b1, c1]
    exact ⟨⟨rfl, in64_lit wp⟩, ⟨rfl, in64_lit wq⟩, rfl⟩
  refine ⟨A, n, c, fun i => numK (V (i * 3)), fun i => numK (V (i * 3 + 1)), fun i => boolK (V (i * 3 + 2)), rfl, hnc, hcm, fun hn => ?_, fun j hj => ⟨(each j hj).1.2, (each j hj).2.1.2⟩, hz⟩
  obtain ⟨b, o, rfl, hb, hc⟩ := hr (by omega)
  refine ⟨b, o, rfl, hb, fun j hj => ?_⟩
  obtain ⟨⟨e1, _⟩, ⟨e2, _⟩, e3⟩ := each j hj
  exact ⟨(hc (j * 3) (by omega)).trans (by rw [← e1]), by rw [Nat.add_assoc]; exact (hc (j * 3 + 1) (by omega)).trans (by rw [← e2]), by rw [Nat.add_assoc]; exact (hc (j * 3 + 2) (by omega)).trans (by rw [← e3])⟩
theorem open_outline2 {t e q t0 t2 : TypeId} {v : Value} {d : DataW H} {ps : List MemPlace} (ht : P.underlying t = some (.slice e)) (he : P.underlying e = some (.slice q)) (ce : P.cellsOf e = 1) (cq : P.cellsOf q = 3) (l0 : leafAt P 6 q 0 = some t0) (l1 : leafAt P 6 q 1 = some t0) (l2 : leafAt P 6 q 2 = some t2) (k0 : P.underlying t0 = some (.int .i64)) (k2 : P.underlying t2 = some .bool)
    (hval : ∃ A n c, v = .slice A n c) (h : DataW.Trod enc P W 0 (fun _ => true) true t v d ps) (hlt : ∀ x ∈ ps, x.block < W.heap.size) :
    ∃ (A : Option Addr) (c : Nat) (LL : List (List Kt)), v = .slice A LL.length c ∧ LL.length ≤ maxLen ∧ RdOL W W.heap.size A LL ∧ (∀ L, L ∈ LL → L.length ≤ maxLen) ∧ (∀ L, L ∈ LL → ∀ k, k ∈ L → InP k.x k.y) := by
  obtain ⟨A, n, c, rfl⟩ := hval
  obtain ⟨fuel, hf⟩ := h
  rcases open_slice1 ht ce hf with ⟨hcs, hx⟩ | ⟨a, len, cap, m, nf, V, D, Pl, hcs, _, hl, hm, hmm, hx, hall⟩
  · simp [Value.cells] at hcs
    obtain ⟨rfl, rfl, rfl⟩ := hcs
    exact ⟨none, 0, [], rfl, Nat.zero_le _, rdOL_none W W.heap.size, (by intro L hL; cases hL), (by intro L hL; cases hL)⟩
  · simp [Value.cells] at hcs
    obtain ⟨rfl, rfl, rfl⟩ := hcs
    simp only [if_true] at hmm
    subst hmm
    simp only [Prod.mk.injEq] at hx
    obtain ⟨rfl, rfl⟩ := hx
    have each : ∀ r, r < n → ∃ y : Option Addr × Nat × Nat × (Nat → Int) × (Nat → Int) × (Nat → Bool), V r = .slice y.1 y.2.1 y.2.2.1 ∧ y.2.1 ≤ maxLen ∧ RdK W W.heap.size y.1 y.2.1 y.2.2.2.1 y.2.2.2.2.1 y.2.2.2.2.2 ∧ ∀ j, j < y.2.1 → InP (y.2.2.2.1 j) (y.2.2.2.2.1 j) := by
      intro r hr
      obtain ⟨_, hrow⟩ := hall r (by omega)
      have hsh : ∃ A n c, V r = .slice A n c := by
        rcases open_slice he hrow with ⟨h1, _⟩ | ⟨a', len', cap', _, _, _, _, h1, _⟩
        · simp at h1; exact ⟨_, _, _, h1⟩
        · simp at h1; exact ⟨_, _, _, h1⟩
      have htr : DataW.Trod enc P W 0 (fun _ => true) true e (V r) (D r) (Pl r) := by
        refine ⟨nf, ?_⟩
        obtain ⟨A', n', c', e1⟩ := hsh
        rw [e1] at hrow ⊢
        exact hrow
      obtain ⟨A', n', c', X, Y, O, e1, h2, h3, h4, h5, _⟩ := open_knots2 he cq l0 l1 l2 k0 k2 hsh htr (fun x hx => hlt x (List.mem_append_right _ (List.mem_flatMap.2 ⟨r, by simp; omega, hx⟩)))
      exact ⟨(A', n', c', X, Y, O), e1, Nat.le_trans h2 h3, h4, h5⟩
    obtain ⟨y, hy⟩ := choose_lt each
    have hrd : Rd W W.heap.size (some a) n V := rd_of_places rfl (fun x hx => hlt x (List.mem_append_left _ hx)) hl (fun i hi => (hall i (by omega)).1)
    have hlen : ((List.range n).map fun r => ktL (y r).2.1 (y r).2.2.2.1 (y r).2.2.2.2.1 (y r).2.2.2.2.2).length = n := by simp
    refine ⟨some a, m, (List.range n).map fun r => ktL (y r).2.1 (y r).2.2.2.1 (y r).2.2.2.2.1 (y r).2.2.2.2.2, by rw [hlen], by rw [hlen]; omega, ⟨(List.range n).map fun r => ⟨(y r).1, (y r).2.1, (y r).2.2.1⟩, by simp, fun hn => ?_, fun j x L h1 h2 => ?_⟩, fun L hL => ?_, fun L hL => ?_⟩
    · obtain ⟨b, o, e1, hb, hc⟩ := hrd (by simpa using hn)
      refine ⟨b, o, e1, hb, fun j s hj i hi => ?_⟩
      obtain rfl : i = 0 := by omega
      rw [List.getElem?_map] at hj
      by_cases hjn : j < n
      · rw [List.getElem?_range hjn] at hj
        simp only [Option.map_some, Option.some.injEq] at hj
        subst hj
        rw [Nat.mul_one, Nat.add_zero, hc j hjn, (hy j hjn).1]
        rfl
      · rw [List.getElem?_eq_none (by simp; omega)] at hj
        cases hj
    · rw [List.getElem?_map] at h1 h2
      by_cases hjn : j < n
      · rw [List.getElem?_range hjn] at h1 h2
        simp only [Option.map_some, Option.some.injEq] at h1 h2
        subst h1 h2
        obtain ⟨_, _, h3, _⟩ := hy j hjn
        exact ⟨by rw [ktL_len], h3.list⟩
      · rw [List.getElem?_eq_none (by simp; omega)] at h1
        cases h1
    · rw [List.mem_map] at hL
      obtain ⟨r, hr, rfl⟩ := hL
      rw [ktL_len]
      exact (hy r (List.mem_range.1 hr)).2.1
    · rw [List.mem_map] at hL
      obtain ⟨r, hr, rfl⟩ := hL
      intro k hk
      unfold ktL at hk
      rw [List.mem_map] at hk
      obtain ⟨i, hi, rfl⟩ := hk
      exact (hy r (List.mem_range.1 hr)).2.2.2 i (List.mem_range.1 hi)
theorem open_outline {t e q t0 t2 : TypeId} {r : Reach} {b0 : Nat} {v : Value} {d : DataW H} {ps : List MemPlace} (ht : P.underlying t = some (.slice e)) (he : P.underlying e = some (.slice q)) (ce : P.cellsOf e = 1) (cq : P.cellsOf q = 3) (l0 : leafAt P 6 q 0 = some t0) (l1 : leafAt P 6 q 1 = some t0) (l2 : leafAt P 6 q 2 = some t2) (k0 : P.underlying t0 = some (.int .i64)) (k2 : P.underlying t2 = some .bool)
    (hval : Value.okWide P W r b0 t v) (h : DataW.Trod enc P W 0 (fun _ => true) true t v d ps) (hlt : ∀ x ∈ ps, x.block < W.heap.size) :
    ∃ (A : Option Addr) (c : Nat) (LL : List (List Kt)), v = .slice A LL.length c ∧ LL.length ≤ maxLen ∧ RdOL W W.heap.size A LL ∧ (∀ L, L ∈ LL → L.length ≤ maxLen) ∧ (∀ L, L ∈ LL → ∀ k, k ∈ L → InP k.x k.y) :=
  open_outline2 ht he ce cq l0 l1 l2 k0 k2 (okWide_slice ht hval) h hlt
end
end Go.Proofs.Ytcjjcjpkmjbfkaa
