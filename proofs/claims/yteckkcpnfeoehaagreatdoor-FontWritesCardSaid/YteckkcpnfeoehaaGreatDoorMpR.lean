/-
  Texts of this seat, put together: each with its own head.
-/
import Derived.Test.YteckkcpnfeoehaaGreatDoorOuP
import Derived.Test.YteckkcpnfeoehaaGreatDoorMnAf
import Derived.Test.YteckkcpnfeoehaaGreatDoorMnAb
import Derived.Test.YteckkcpnfeoehaaGreatDoorMnAa
import Derived.Lib.SmallJoins
import Derived.Test.YteckkcpnfeoehaaGreatDoorMnAg
import Derived.Test.YteckkcpnfeoehaaGreatDoorFnB
import Derived.Test.YteckkcpnfeoehaaGreatDoorLoM

/-
  An outline that came in.
-/
namespace Go.Proofs.YteckkcpnfeoehaaGreatDoor
set_option maxRecDepth 100000
open Go.RowKit Go.ChangeShapes Go.WideShapes Go.Deep
set_option linter.unusedVariables false
section
variable {H : Type} {enc : TypeId × Value → H} {P : Program} {W : World}
end
end Go.Proofs.YteckkcpnfeoehaaGreatDoor

/-
  A glyph that came in: an outline and bytes in one struct.
-/
namespace Go.Proofs.YteckkcpnfeoehaaGreatDoor
set_option maxRecDepth 100000
open Go.RowKit Go.ChangeShapes Go.WideShapes Go.Deep Go.Joins
set_option linter.unusedVariables false
section
variable {H : Type} {enc : TypeId × Value → H} {P : Program} {W : World}
theorem shape_slice {t e : TypeId} {v : Value} {n : Nat} {y : DataW H × List MemPlace} (ht : P.underlying t = some (.slice e)) (h : DataW.trod enc P W 0 (fun _ => true) true n t [v] = some y) : ∃ A m c, v = .slice A m c := by
  rcases open_slice ht h with ⟨h1, _⟩ | ⟨a', len', cap', _, _, _, _, h1, _⟩
  · simp at h1; exact ⟨_, _, _, h1⟩
  · simp at h1; exact ⟨_, _, _, h1⟩
theorem trod_one {t : TypeId} {v : Value} {n : Nat} {y : DataW H × List MemPlace} {A : Option Addr} {m c : Nat} (hv : v = .slice A m c) (h : DataW.trod enc P W 0 (fun _ => true) true n t [v] = some y) : DataW.Trod enc P W 0 (fun _ => true) true t v y.1 y.2 := ⟨n, by subst hv; exact h⟩
theorem open_rd2 {t e : TypeId} {k : IntKind} {v : Value} {d : DataW H} {ps : List MemPlace} (ht : P.underlying t = some (.slice e)) (he : P.underlying e = some (.int k)) (hc : P.cellsOf e = 1)
    (hval : ∃ A n c, v = .slice A n c) (h : DataW.Trod enc P W 0 (fun _ => true) true t v d ps) (hlt : ∀ x ∈ ps, x.block < W.heap.size) :
    ∃ A n c f, v = .slice A n c ∧ n ≤ c ∧ c ≤ maxLen ∧ Rd W W.heap.size A n (IntRow k f) ∧ (∀ j, j < n → (Lit.int k (f j)).wf = true) ∧ (c = 0 ∨ ∃ el sp, d = .slice el sp ∧ el.length + sp.length = c) := by
  obtain ⟨A, n, c, rfl⟩ := hval
  obtain ⟨fuel, hf⟩ := h
  rcases open_ints ht he hc hf with ⟨hcs, hx⟩ | ⟨a, len, cap, zs, hcs, _, hl, hm, hz, hx, hcell, hwz⟩
  · simp [Value.cells] at hcs
    obtain ⟨rfl, rfl, rfl⟩ := hcs
    exact ⟨none, 0, 0, fun _ => 0, rfl, Nat.le_refl _, Nat.zero_le _, Rd.zero, fun j hj => absurd hj (by omega), .inl rfl⟩
  · simp [Value.cells] at hcs
    obtain ⟨rfl, rfl, rfl⟩ := hcs
    simp only [if_true] at hz
    simp only [Prod.mk.injEq] at hx
    obtain ⟨rfl, rfl⟩ := hx
    refine ⟨some a, n, c, fun j => zs.getD j 0, rfl, hl, hm, fun hn => ?_, fun j hj => ?_, .inr ⟨_, _, rfl, ?_⟩⟩
    · have hspot : a.spot = none := by
        have h0 := hcell 0 (by omega)
        cases hsp : a.spot with
        | none => rfl
        | some s =>
          have e : (a.add 0).spot = some s := by unfold Addr.add; split <;> simp_all
          simp only [World.cell?] at h0
          split at h0
          · simp [e] at h0
          · cases h0
      obtain ⟨b, o, s⟩ := a
      simp only at hspot
      subst hspot
      refine ⟨b, o, rfl, hlt (.cell b (o + 0)) (MemPlace.mem_row.2 ⟨0, by omega, rfl⟩), fun j hj => ?_⟩
      have := hcell j (by omega)
      rw [← add_plain]
      exact this
    · have hj' : j < zs.length := by omega
      have : zs.getD j 0 = zs[j] := by simp [List.getD, hj']
      show (Lit.int k (zs.getD j 0)).wf = true
      rw [this]
      exact hwz _ (List.getElem_mem hj')
    · simp [lits]; omega
end
end Go.Proofs.YteckkcpnfeoehaaGreatDoor

/-
  Tables that came in.
-/
namespace Go.Proofs.YteckkcpnfeoehaaGreatDoor
set_option maxRecDepth 100000
open Go.RowKit Go.ChangeShapes Go.WideShapes Go.Deep Go.Joins
set_option linter.unusedVariables false
section
variable {H : Type} {enc : TypeId × Value → H} {P : Program} {W : World}
/-- What a table is that came in. -/
structure InT where
  (tag : ByteArray) (A : Option Addr) (n c : Nat) (f : Nat → Int)
instance : Inhabited InT := ⟨⟨ByteArray.empty, none, 0, 0, fun _ => 0⟩⟩
theorem open_tables {t e ts tb tu : TypeId} {f0 f1 : Field} {v : Value} {d : DataW H} {ps : List MemPlace} (ht : P.underlying t = some (.slice e)) (hs : P.underlying e = some (.struct #[f0, f1])) (hone : oneCellFields P #[f0, f1] = true) (hC : P.cellsOf e = 2)
    (e0 : f0.type = ts) (e1 : f1.type = tb) (hst : P.underlying ts = some .string) (hb : P.underlying tb = some (.slice tu)) (hu : P.underlying tu = some (.int .u8)) (cu : P.cellsOf tu = 1)
    (hval : ∃ A n c, v = .slice A n c) (h : DataW.Trod enc P W 0 (fun _ => true) true t v d ps) (hlt : ∀ x ∈ ps, x.block < W.heap.size) :
    ∃ (A : Option Addr) (c : Nat) (TT : List Tb), v = .slice A TT.length c ∧ TT.length ≤ maxLen ∧ RdTL W W.heap.size A TT ∧ (∀ T, T ∈ TT → T.data.length ≤ maxLen ∧ T.tag.size ≤ maxLen) ∧ (∀ T, T ∈ TT → ∀ x, x ∈ T.data → (Lit.int .u8 x).wf = true) := by
  obtain ⟨A, n, c, rfl⟩ := hval
  obtain ⟨fuel, hf⟩ := h
  rcases open_slice ht hf with ⟨hcs, hx⟩ | ⟨a, len, cap, m, nf, D, Pl, hcs, _, hl, hm, hmm, hx, hall⟩
  · simp [Value.cells] at hcs
    obtain ⟨rfl, rfl, rfl⟩ := hcs
    exact ⟨none, 0, [], rfl, Nat.zero_le _, RdTL.nil, (by intro L hL; cases hL), (by intro L hL; cases hL)⟩
  · simp [Value.cells] at hcs
    obtain ⟨rfl, rfl, rfl⟩ := hcs
    simp only [if_true] at hmm
    subst hmm
    simp only [Prod.mk.injEq] at hx
    obtain ⟨rfl, rfl⟩ := hx
    have each : ∀ r, r < n → ∃ y : InT, W.cell? (a.add (r * 2)) = some (.string y.tag) ∧ W.cell? (a.add (r * 2 + 1)) = some (.slice y.A y.n y.c) ∧ y.tag.size ≤ maxLen ∧ y.n ≤ maxLen ∧ Rd W W.heap.size y.A y.n (IntRow .u8 y.f) ∧ ∀ j, j < y.n → (Lit.int .u8 (y.f j)).wf = true := by
      intro r hr
      obtain ⟨cs', g1, g2⟩ := hall r (by omega)
      rw [hC] at g1
      obtain ⟨_, hlen, hcell⟩ := World.cells?_some g1
      obtain ⟨x0, x1, rfl⟩ : ∃ x0 x1, cs' = [x0, x1] := by
        rcases cs' with _ | ⟨x0, _ | ⟨x1, _ | ⟨x2, l⟩⟩⟩
        · simp at hlen
        · simp at hlen
        · exact ⟨x0, x1, rfl⟩
        · simp at hlen
      obtain ⟨y0, y1, n', hxx, _, h0, h1⟩ := trod_struct2 hs g2
      obtain ⟨o0, k0⟩ := hone_of hone 0 f0 rfl
      obtain ⟨o1, k1⟩ := hone_of hone 1 f1 rfl
      have t0 : DataW.trod enc P W 0 (fun _ => true) true n' ts [x0] = some y0 := by rw [← e0]; simpa [Value.cells, o0, k0] using h0
      have t1 : DataW.trod enc P W 0 (fun _ => true) true n' tb [x1] = some y1 := by rw [← e1]; simpa [Value.cells, o1, k1] using h1
      simp only [Prod.mk.injEq] at hxx
      obtain ⟨s, es, _, hss⟩ := DataW.trod_string hst t0
      injection es with es
      subst es
      obtain ⟨A1, m1, c1, hv1⟩ := shape_slice hb t1
      obtain ⟨B, m, k, f, rfl, b2, b3, b4, b5, _⟩ := open_rd2 hb hu cu ⟨_, _, _, hv1⟩ (trod_one hv1 t1) (fun x hx => hlt x (List.mem_append_right _ (List.mem_flatMap.2 ⟨r, by simp; omega, by rw [hxx.2]; exact List.mem_append_right _ hx⟩)))
      have c0 := hcell 0 (by omega)
      have c1' := hcell 1 (by omega)
      rw [add_add] at c0 c1'
      rw [Nat.add_zero] at c0
      exact ⟨⟨s, B, m, k, f⟩, c0, c1', hss, Nat.le_trans b2 b3, b4, b5⟩
    obtain ⟨y, hy⟩ := choose_lt each
    refine ⟨some a, m, (List.range n).map fun r => ⟨(y r).tag, (List.range (y r).n).map (y r).f⟩, by simp, by simp; omega, ⟨(List.range n).map fun r => ⟨(y r).tag, (y r).A, (y r).n, (y r).c⟩, by simp, fun hn => ?_, fun j x T h1 h2 => ?_⟩, fun T hT => ?_, fun T hT x hx => ?_⟩
    · have hn0 : 0 < n := by simpa using hn
      have hspot : a.spot = none := by
        have h0 := (hy 0 hn0).1
        rw [Nat.zero_mul] at h0
        cases hsp : a.spot with
        | none => rfl
        | some s =>
          have e : (a.add 0).spot = some s := by unfold Addr.add; split <;> simp_all
          simp only [World.cell?] at h0
          split at h0
          · simp [e] at h0
          · cases h0
      obtain ⟨b, o, s⟩ := a
      simp only at hspot
      subst hspot
      refine ⟨b, o, rfl, hlt (.cell b (o + 0)) (List.mem_append_left _ (MemPlace.mem_row.2 ⟨0, by rw [hC]; omega, rfl⟩)), fun j s hj i hi => ?_⟩
      have hjn : j < n := by
        rcases Nat.lt_or_ge j n with h | h
        · exact h
        · rw [List.getElem?_eq_none (by simp; omega)] at hj; cases hj
      rw [List.getElem?_map, List.getElem?_range hjn] at hj
      simp only [Option.map_some, Option.some.injEq] at hj
      subst hj
      obtain ⟨q1, q2, _⟩ := hy j hjn
      rw [add_plain] at q1 q2
      have hi2 : i = 0 ∨ i = 1 := by omega
      rcases hi2 with rfl | rfl
      · rw [Nat.add_zero]; exact q1
      · rw [Nat.add_assoc]; exact q2
    · rw [List.getElem?_map] at h1 h2
      by_cases hjn : j < n
      · rw [List.getElem?_range hjn] at h1 h2
        simp only [Option.map_some, Option.some.injEq] at h1 h2
        subst h1 h2
        obtain ⟨_, _, _, _, h3, _⟩ := hy j hjn
        exact ⟨rfl, by simp, rdb_map h3⟩
      · rw [List.getElem?_eq_none (by simp; omega)] at h1
        cases h1
    · rw [List.mem_map] at hT
      obtain ⟨r, hr, rfl⟩ := hT
      obtain ⟨_, _, h3, h4, _⟩ := hy r (List.mem_range.1 hr)
      exact ⟨by simpa using h4, h3⟩
    · rw [List.mem_map] at hT
      obtain ⟨r, hr, rfl⟩ := hT
      obtain ⟨_, _, _, _, _, h5⟩ := hy r (List.mem_range.1 hr)
      rw [List.mem_map] at hx
      obtain ⟨i, hi, rfl⟩ := hx
      exact h5 i (List.mem_range.1 hi)
end
end Go.Proofs.YteckkcpnfeoehaaGreatDoor

/-
  A font that came in.
-/
namespace Go.Proofs.YteckkcpnfeoehaaGreatDoor
set_option maxRecDepth 100000
open Go.RowKit Go.ChangeShapes Go.WideShapes Go.Deep Go.Joins
set_option linter.unusedVariables false
set_option linter.unusedSimpArgs false
section
variable {H : Type} {enc : TypeId × Value → H} {P : Program} {W : World}
theorem open_flat_s {t e : TypeId} {k : Nat} {v : Value} {d : DataW H} {ps : List MemPlace} (ht : P.underlying t = some (.slice e)) (ce : P.cellsOf e = k) (hk : 0 < k)
    (hval : ∃ A n c, v = .slice A n c) (h : DataW.Trod enc P W 0 (fun _ => true) true t v d ps) (hlt : ∀ x ∈ ps, x.block < W.heap.size) :
    ∃ (A : Option Addr) (n c : Nat) (V : Nat → Value), v = .slice A n c ∧ n ≤ c ∧ c ≤ maxLen ∧ Rd W W.heap.size A (n * k) V ∧ (∀ i, i < n → ∃ m x, DataW.trod enc P W 0 (fun _ => true) true m e (tab k (fun j => V (i * k + j))) = some x) ∧ (c = 0 ∨ ∃ el sp, d = .slice el sp ∧ el.length + sp.length = c) := by
  obtain ⟨A, n, c, rfl⟩ := hval
  obtain ⟨fuel, hf⟩ := h
  rcases open_slice ht hf with ⟨hcs, hx⟩ | ⟨a, len, cap, m, z, D, Pl, hcs, _, hl, hm, hmm, hx, hall⟩
  · simp [Value.cells] at hcs
    obtain ⟨rfl, rfl, rfl⟩ := hcs
    exact ⟨none, 0, 0, fun _ => undef, rfl, Nat.le_refl _, Nat.zero_le _, by rw [Nat.zero_mul]; exact Rd.zero, fun j hj => absurd hj (by omega), .inl rfl⟩
  · simp [Value.cells] at hcs
    obtain ⟨rfl, rfl, rfl⟩ := hcs
    simp only [if_true] at hmm
    subst hmm
    simp only [Prod.mk.injEq] at hx
    obtain ⟨rfl, rfl⟩ := hx
    have each : ∀ j, j < m → ∃ cs : List Value, cs.length = k ∧ (∀ i, i < k → W.cell? (a.add (j * k + i)) = cs[i]?) ∧ ∃ m' x, DataW.trod enc P W 0 (fun _ => true) true m' e cs = some x := by
      intro j hj
      obtain ⟨cs', g1, g2⟩ := hall j hj
      rw [ce] at g1
      obtain ⟨_, hlen, hcell⟩ := World.cells?_some g1
      refine ⟨cs', hlen, fun i hi => ?_, _, _, g2⟩
      have c0 := hcell i (by omega)
      rw [add_add] at c0
      exact c0
    obtain ⟨q, hq⟩ := choose_lt each
    have hV : ∀ j, j < m → ∀ i, i < k → W.cell? (a.add (j * k + i)) = some ((q j).getD i undef) := fun j hj i hi => by
      obtain ⟨h1, h2, _⟩ := hq j hj
      rw [h2 i hi, List.getElem?_eq_getElem (by omega)]
      simp [List.getD, show i < (q j).length by omega]
    refine ⟨some a, n, m, fun j => (q (j / k)).getD (j % k) undef, rfl, hl, hm, ?_, fun i hi => ?_, .inr ⟨_, _, rfl, ?_⟩⟩
    · intro hn
      have hspot : a.spot = none := by
        have h0 := hV 0 (by rcases Nat.eq_zero_or_pos m with h0 | h0 <;> (try subst h0) <;> (try simp at hl) <;> (try subst hl) <;> (try simp at hn) <;> omega) 0 hk
        rw [Nat.zero_mul, Nat.add_zero] at h0
        cases hsp : a.spot with
        | none => rfl
        | some s =>
          have e : (a.add 0).spot = some s := by unfold Addr.add; split <;> simp_all
          simp only [World.cell?] at h0
          split at h0
          · simp [e] at h0
          · cases h0
      obtain ⟨b, o, s⟩ := a
      simp only at hspot
      subst hspot
      have hmk : 0 < m * k := Nat.lt_of_lt_of_le hn (Nat.mul_le_mul_right _ hl)
      refine ⟨b, o, rfl, hlt (.cell b (o + 0)) (List.mem_append_left _ (MemPlace.mem_row.2 ⟨0, by rw [ce]; exact hmk, rfl⟩)), fun j hj => ?_⟩
      have hjk : j / k < m := by rw [Nat.div_lt_iff_lt_mul hk]; exact Nat.lt_of_lt_of_le hj (Nat.mul_le_mul_right _ hl)
      have h1 := hV (j / k) hjk (j % k) (Nat.mod_lt _ hk)
      rw [Nat.div_add_mod' j k] at h1
      rw [← add_plain]
      exact h1
    · obtain ⟨h1, h2, m', x, h3⟩ := hq i (by omega)
      refine ⟨m', x, ?_⟩
      rw [← h3]
      congr 1
      apply List.ext_getElem?
      intro j
      rw [tab_get]
      split
      · rename_i hj
        have e1 : (i * k + j) / k = i := by rw [Nat.add_comm, Nat.add_mul_div_right _ _ hk, Nat.div_eq_of_lt hj, Nat.zero_add]
        have e2 : (i * k + j) % k = j := by rw [Nat.add_comm, Nat.add_mul_mod_self_right, Nat.mod_eq_of_lt hj]
        simp only [e1, e2]
        rw [List.getElem?_eq_getElem (by omega)]
        simp [List.getD, show j < (q i).length by omega]
      · rw [List.getElem?_eq_none (by omega)]
    · simp; omega
theorem open_two_s {t e t0 : TypeId} {v : Value} {d : DataW H} {ps : List MemPlace} (ht : P.underlying t = some (.slice e)) (ce : P.cellsOf e = 2) (l0 : leafAt P 6 e 0 = some t0) (l1 : leafAt P 6 e 1 = some t0) (k0 : P.underlying t0 = some (.int .i64))
    (hval : ∃ A n c, v = .slice A n c) (h : DataW.Trod enc P W 0 (fun _ => true) true t v d ps) (hlt : ∀ x ∈ ps, x.block < W.heap.size) :
    ∃ (A : Option Addr) (n c : Nat) (X Y : Nat → Int), v = .slice A n c ∧ n ≤ c ∧ c ≤ maxLen ∧ Rd W W.heap.size A (n * 2) (MtV X Y) ∧ (∀ j, j < n → In64 (X j) ∧ In64 (Y j)) ∧ (c = 0 ∨ ∃ el sp, d = .slice el sp ∧ el.length + sp.length = c) := by
  obtain ⟨A, n, c, V, rfl, hnc, hcm, hr, hall, hz⟩ := open_flat_s ht ce (by omega) hval h hlt
  have each : ∀ i, i < n → (V (i * 2) = .int .i64 (numOf (V (i * 2))) ∧ In64 (numOf (V (i * 2)))) ∧ (V (i * 2 + 1) = .int .i64 (numOf (V (i * 2 + 1))) ∧ In64 (numOf (V (i * 2 + 1)))) := fun i hi => by
    obtain ⟨m, x, hx⟩ := hall i hi
    obtain ⟨u0, m0, y0, a1, a2, _⟩ := leaf_at 6 e t0 0 l0 m _ x hx
    obtain ⟨u1, m1, y1, b1, b2, _⟩ := leaf_at 6 e t0 1 l1 m _ x hx
    obtain ⟨p, ep, _, wp⟩ := DataW.trod_int k0 a2
    obtain ⟨q, eq, _, wq⟩ := DataW.trod_int k0 b2
    injection ep with ep
    injection eq with eq
    rw [tab_get, if_pos (by omega)] at a1 b1
    injection a1 with a1
    injection b1 with b1
    rw [Nat.add_zero] at a1
    subst ep; subst eq
    rw [a1, b1]
    exact ⟨⟨rfl, wf_i64 wp⟩, ⟨rfl, wf_i64 wq⟩⟩
  refine ⟨A, n, c, fun i => numOf (V (i * 2)), fun i => numOf (V (i * 2 + 1)), rfl, hnc, hcm, hr.congr (fun t ht => ?_), fun j hj => ⟨(each j hj).1.2, (each j hj).2.2⟩, hz⟩
  unfold MtV
  by_cases hp : t % 2 = 0
  · rw [if_pos hp]
    have e1 : t / 2 * 2 = t := by omega
    have := (each (t / 2) (by omega)).1.1
    rw [e1] at this
    show V t = Value.int .i64 (numOf (V (t / 2 * 2)))
    rw [e1]
    exact this
  · rw [if_neg hp]
    have e1 : t / 2 * 2 + 1 = t := by omega
    have := (each (t / 2) (by omega)).2.1
    rw [e1] at this
    show V t = Value.int .i64 (numOf (V (t / 2 * 2 + 1)))
    rw [e1]
    exact this
theorem open_rows_s {t e q : TypeId} {k : IntKind} {v : Value} {d : DataW H} {ps : List MemPlace} (ht : P.underlying t = some (.slice e)) (he : P.underlying e = some (.slice q)) (hq : P.underlying q = some (.int k)) (ce : P.cellsOf e = 1) (cq : P.cellsOf q = 1)
    (hval : ∃ A n c, v = .slice A n c) (h : DataW.Trod enc P W 0 (fun _ => true) true t v d ps) (hlt : ∀ x ∈ ps, x.block < W.heap.size) :
    ∃ (A : Option Addr) (n c : Nat) (AA : Nat → Option Addr) (LL CC : Nat → Nat) (Z : Nat → Nat → Int), v = .slice A n c ∧ n ≤ c ∧ c ≤ maxLen ∧ Rd W W.heap.size A n (fun j => .slice (AA j) (LL j) (CC j)) ∧
      ∀ j, j < n → LL j ≤ CC j ∧ CC j ≤ maxLen ∧ Rd W W.heap.size (AA j) (LL j) (IntRow k (Z j)) ∧ ∀ i, i < LL j → (Lit.int k (Z j i)).wf = true := by
  obtain ⟨A, n, c, rfl⟩ := hval
  obtain ⟨fuel, hf⟩ := h
  rcases open_int_rows ht he hq ce cq hf with ⟨hcs, hx⟩ | ⟨a, len, cap, AA, LL, CC, Z, hcs, _, hl, hm, hx, hall⟩
  · simp [Value.cells] at hcs
    obtain ⟨rfl, rfl, rfl⟩ := hcs
    exact ⟨none, 0, 0, fun _ => none, fun _ => 0, fun _ => 0, fun _ _ => 0, rfl, Nat.le_refl _, Nat.zero_le _, Rd.zero, fun j hj => absurd hj (by omega)⟩
  · simp [Value.cells] at hcs
    obtain ⟨rfl, rfl, rfl⟩ := hcs
    simp only [Prod.mk.injEq] at hx
    obtain ⟨rfl, rfl⟩ := hx
    refine ⟨some a, n, c, AA, LL, CC, fun j i => (Z j).getD i 0, rfl, hl, hm, rd_of_places rfl (fun x hx => hlt x (List.mem_append_left _ hx)) hl (fun i hi => (hall i (by omega)).1), fun j hj => ?_⟩
    obtain ⟨_, h2, h3, h4, h5, h6, h7⟩ := hall j (by omega)
    refine ⟨h2, h3, ?_, fun i hi => ?_⟩
    · cases hA : AA j with
      | none =>
        have := h6 hA
        have hL0 : LL j = 0 := by omega
        rw [hL0]
        exact Rd.zero
      | some a' =>
        refine rd_of_places (len := (Z j).length) rfl (fun x hx => hlt x (List.mem_append_right _ (List.mem_flatMap.2 ⟨j, by simp; omega, by unfold intRowPlaces; rw [hA]; exact hx⟩))) (by omega) (fun i hi => ?_)
        exact (h7 a' hA).2 i (by omega)
    · have hi' : i < (Z j).length := by omega
      have e : (Z j).getD i 0 = (Z j)[i] := by simp [List.getD, hi']
      show (Lit.int k ((Z j).getD i 0)).wf = true
      rw [e]
      exact h5 _ (List.getElem_mem hi')
end
theorem cells_fn : Tryz.prog.cellsOf 30 = 17 := by kernel_rfl
theorem cells_tbf : Tryz.prog.cellsOf 49 = 2 := by kernel_rfl
theorem cells_byf : Tryz.prog.cellsOf 5 = 1 := by kernel_rfl
theorem cells_bsf : Tryz.prog.cellsOf 34 = 1 := by kernel_rfl
theorem cells_mtf : Tryz.prog.cellsOf 89 = 2 := by kernel_rfl
theorem leaf_mt0 : leafAt Tryz.prog 6 89 0 = some 3 := by kernel_rfl
theorem leaf_mt1 : leafAt Tryz.prog 6 89 1 = some 3 := by kernel_rfl
theorem leaf_fn0 : leafAt Tryz.prog 6 30 0 = some 22 := by kernel_rfl
theorem leaf_fn14 : leafAt Tryz.prog 6 30 14 = some 27 := by kernel_rfl
theorem leaf_fn16 : leafAt Tryz.prog 6 30 16 = some 28 := by kernel_rfl
theorem leaf_fn6 : leafAt Tryz.prog 6 30 6 = some 4 := by kernel_rfl
theorem leaf_fn1 : leafAt Tryz.prog 6 30 1 = some 3 := by kernel_rfl
theorem leaf_fn2 : leafAt Tryz.prog 6 30 2 = some 3 := by kernel_rfl
theorem leaf_fn3 : leafAt Tryz.prog 6 30 3 = some 3 := by kernel_rfl
theorem leaf_fn4 : leafAt Tryz.prog 6 30 4 = some 3 := by kernel_rfl
theorem leaf_fn5 : leafAt Tryz.prog 6 30 5 = some 3 := by kernel_rfl
theorem leaf_fn7 : leafAt Tryz.prog 6 30 7 = some 3 := by kernel_rfl
theorem leaf_fn8 : leafAt Tryz.prog 6 30 8 = some 3 := by kernel_rfl
theorem leaf_fn9 : leafAt Tryz.prog 6 30 9 = some 3 := by kernel_rfl
theorem leaf_fn10 : leafAt Tryz.prog 6 30 10 = some 3 := by kernel_rfl
theorem leaf_fn11 : leafAt Tryz.prog 6 30 11 = some 3 := by kernel_rfl
theorem leaf_fn12 : leafAt Tryz.prog 6 30 12 = some 3 := by kernel_rfl
theorem leaf_fn13 : leafAt Tryz.prog 6 30 13 = some 3 := by kernel_rfl
theorem leaf_fn15 : leafAt Tryz.prog 6 30 15 = some 3 := by kernel_rfl
theorem pairs_x {n : Nat} {X Y : Nat → Int} {j : Nat} (hj : j < n) : mtX ((List.range n).map (fun i => (X i, Y i))) j = X j ∧ mtY ((List.range n).map (fun i => (X i, Y i))) j = Y j := by
  unfold mtX mtY
  rw [List.getD_eq_getElem?_getD, List.getElem?_map, List.getElem?_range hj]
  exact ⟨rfl, rfl⟩
/-- What is known of a font that came in. -/
structure InF (W : World) (x : Fh) (F : Fn9) : Prop where
  rd : FnR W W.heap.size x F
  num : FnW F
  gc : F.GG.length ≤ x.cg
  tl : F.TT.length ≤ maxLen
  ml : F.MM.length ≤ maxLen
  gl : F.GG.length ≤ maxLen
  td : ∀ T, T ∈ F.TT → T.data.length ≤ maxLen ∧ T.tag.size ≤ maxLen
  gd : ∀ L, L ∈ F.GG → L.length ≤ maxLen
set_option maxHeartbeats 4000000 in
theorem open_font {H : Type} {enc : TypeId × Value → H} {W : World} {r : Reach} {b0 : Nat} {v : Value} {d : DataW H} {ps : List MemPlace} (hval : Value.okWide Tryz.prog W r b0 30 v) (h : DataW.Trod enc Tryz.prog W 0 (fun _ => true) true 30 v d ps) (hlt : ∀ x ∈ ps, x.block < W.heap.size) :
    ∃ (x : Fh) (F : Fn9), v = .agg (fnV x F) ∧ InF W x F := by
  obtain ⟨cs, rfl, hs⟩ := okWide_agg (P := Tryz.prog) (t := 30) (by kernel_rfl) hval
  obtain ⟨a1, g1, w1⟩ := leaf_int leaf_fn1 Tryz.underlying3 h
  obtain ⟨a2, g2, w2⟩ := leaf_int leaf_fn2 Tryz.underlying3 h
  obtain ⟨a3, g3, w3⟩ := leaf_int leaf_fn3 Tryz.underlying3 h
  obtain ⟨a4, g4, w4⟩ := leaf_int leaf_fn4 Tryz.underlying3 h
  obtain ⟨a5, g5, w5⟩ := leaf_int leaf_fn5 Tryz.underlying3 h
  obtain ⟨a7, g7, w7⟩ := leaf_int leaf_fn7 Tryz.underlying3 h
  obtain ⟨a8, g8, w8⟩ := leaf_int leaf_fn8 Tryz.underlying3 h
  obtain ⟨a9, g9, w9⟩ := leaf_int leaf_fn9 Tryz.underlying3 h
  obtain ⟨a10, g10, w10⟩ := leaf_int leaf_fn10 Tryz.underlying3 h
  obtain ⟨a11, g11, w11⟩ := leaf_int leaf_fn11 Tryz.underlying3 h
  obtain ⟨a12, g12, w12⟩ := leaf_int leaf_fn12 Tryz.underlying3 h
  obtain ⟨a13, g13, w13⟩ := leaf_int leaf_fn13 Tryz.underlying3 h
  obtain ⟨a15, g15, w15⟩ := leaf_int leaf_fn15 Tryz.underlying3 h
  obtain ⟨a6, g6⟩ := leaf_bool leaf_fn6 Tryz.underlying4 h
  obtain ⟨m, hm⟩ := h
  obtain ⟨v0, m0, y0, g0, h0, q0⟩ := leaf_at 6 _ _ 0 leaf_fn0 m _ _ hm
  obtain ⟨v14, m14, y14, g14, h14, q14⟩ := leaf_at 6 _ _ 14 leaf_fn14 m _ _ hm
  obtain ⟨v16, m16, y16, g16, h16, q16⟩ := leaf_at 6 _ _ 16 leaf_fn16 m _ _ hm
  obtain ⟨A0, n0, c0, e0⟩ := shape_slice Tryz.underlying22 h0
  obtain ⟨A1, n1, c1, e14⟩ := shape_slice Tryz.underlying27 h14
  obtain ⟨A2, n2, c2, e16⟩ := shape_slice Tryz.underlying28 h16
  obtain ⟨At, ct, TT, k0, tl, tr, td, tw⟩ := open_tables (ts := 9) (tb := 34) (tu := 5) Tryz.underlying22 Tryz.underlying49 (by kernel_rfl) cells_tbf rfl rfl Tryz.underlying9 Tryz.underlying34 Tryz.underlying5 cells_byf ⟨_, _, _, e0⟩ (trod_one e0 h0) (fun x hx => hlt x (q0 x hx))
  obtain ⟨Am, nm, cm, X, Y, k14, mnc, mcm, mr, mi, _⟩ := open_two_s Tryz.underlying27 cells_mtf leaf_mt0 leaf_mt1 Tryz.underlying3 ⟨_, _, _, e14⟩ (trod_one e14 h14) (fun x hx => hlt x (q14 x hx))
  obtain ⟨Ag, ng, cg, AA, LL, CC, Z, k16, gnc, gcm, gr, gall⟩ := open_rows_s Tryz.underlying28 Tryz.underlying34 Tryz.underlying5 cells_bsf cells_byf ⟨_, _, _, e16⟩ (trod_one e16 h16) (fun x hx => hlt x (q16 x hx))
  clear e0 e14 e16
  subst k0; subst k14; subst k16
  refine ⟨⟨At, ct, Am, cm, Ag, cg⟩, ⟨TT, ⟨a1, a2, a3, a4, a5, a6⟩, ⟨a7, a8, a9, a10, a11, a12, a13⟩, (List.range nm).map (fun i => (X i, Y i)), a15, (List.range ng).map (fun j => (List.range (LL j)).map (Z j))⟩, ?_, ?_⟩
  · congr 1
    have e1 : ((List.range nm).map (fun i => (X i, Y i))).length = nm := by simp
    have e2 : ((List.range ng).map (fun j => (List.range (LL j)).map (Z j))).length = ng := by simp
    unfold fnV
    simp only [e1, e2]
    refine agg_cells (hs.trans cells_fn) (fun k hk => ?_)
    have hk' : k = 0 ∨ k = 1 ∨ k = 2 ∨ k = 3 ∨ k = 4 ∨ k = 5 ∨ k = 6 ∨ k = 7 ∨ k = 8 ∨ k = 9 ∨ k = 10 ∨ k = 11 ∨ k = 12 ∨ k = 13 ∨ k = 14 ∨ k = 15 ∨ k = 16 := by simp only [fnC_len] at hk; omega
    rcases hk' with rfl | rfl | rfl | rfl | rfl | rfl | rfl | rfl | rfl | rfl | rfl | rfl | rfl | rfl | rfl | rfl | rfl
    · rw [← Array.getElem?_toList]; exact g0
    · exact g1
    · exact g2
    · exact g3
    · exact g4
    · exact g5
    · exact g6
    · exact g7
    · exact g8
    · exact g9
    · exact g10
    · exact g11
    · exact g12
    · exact g13
    · rw [← Array.getElem?_toList]; exact g14
    · exact g15
    · rw [← Array.getElem?_toList]; exact g16
  · refine ⟨⟨tr, ?_, rdbl_of gr gall⟩, ⟨fun T hT x hx => wf_u8 (tw T hT x hx), rows_bytes gall, fun j hj => ?_, wf_i64 w15, ⟨wf_i64 w1, wf_i64 w2, wf_i64 w3, wf_i64 w4, wf_i64 w5⟩, ⟨wf_i64 w7, wf_i64 w8, wf_i64 w9, wf_i64 w10, wf_i64 w11, wf_i64 w12, wf_i64 w13⟩⟩, ?_, tl, ?_, ?_, td, fun L hL => ?_⟩
    · have e1 : ((List.range nm).map (fun i => (X i, Y i))).length = nm := by simp
      show Rd W W.heap.size Am (((List.range nm).map (fun i => (X i, Y i))).length * 2) _
      rw [e1]
      refine mr.congr fun j hj => ?_
      obtain ⟨p1, p2⟩ := pairs_x (X := X) (Y := Y) (show j / 2 < nm by omega)
      unfold MtV
      rw [p1, p2]
    · have hj' : j < nm := by simpa using hj
      obtain ⟨p1, p2⟩ := pairs_x (X := X) (Y := Y) hj'
      rw [p1, p2]
      exact mi j hj'
    · simpa using gnc
    · simp; omega
    · simp; omega
    · obtain ⟨j, hj, rfl⟩ := rows_in hL
      obtain ⟨b1, b2, _, _⟩ := gall j hj
      simp; omega
end Go.Proofs.YteckkcpnfeoehaaGreatDoor
