/-
  Slices of values of k cells each: what a row reads as, append to an own row, what came in, opened.
-/
import Derived.Test.YtpplnapfpoloiaaKit5
import Derived.Test.YtpplnapfpoloiaaKit8
import Derived.Deep.SlicePairs
namespace Go.Proofs.Ytpplnapfpoloiaa
open Go.RowKit Go.ChangeShapes Go.WideShapes Go.Deep
set_option linter.unusedVariables false
section
variable {P : Program} (w : World)
theorem run_append_k (base : Nat) (t ty e : TypeId) (i : TypeInfo) (z : Value) (k bytes : Nat) (ht : P.underlying t = some (.slice e)) (hi : P.info? e = some i) (hz : i.zero = some z)
    (hsize : i.size = k) (hby : i.bytes = bytes) (hzs : z.cells.size = k) (hk : 0 < k) (v : Value) (n : Nat) (xs : List Value) (hown : w.ownsRow base e k v n xs)
    (B : Nat) (A : Option Addr) (m c : Nat) (V : Nat → Value) (hr : Rd w B A (m * k) V) (h1 : ∀ u ∈ tab (m * k) V, u.oneCell' = true) (hbytes : (n + m) * bytes ≤ 140737488355328) (h63 : n + m ≤ maxLen) (hbase : base ≤ w.heap.size) :
    ∃ v' w', (Builtin.append_ #[t, t] ty #[v, .slice A m c]).run P w = .ok v' w' ∧ w'.ownsRow base e k v' (n + m) (xs ++ tab (m * k) V) ∧ w.grownBy w' v.ownBlock := by
  rcases A with _ | ad
  · have hm : m = 0 := by
      rcases Nat.eq_zero_or_pos m with h0 | h0
      · exact h0
      · obtain ⟨b, o, h, _⟩ := hr (Nat.mul_pos h0 hk); cases h
    subst hm
    refine ⟨v, w, ?_, by simpa [tab_zero] using hown, World.grownBy.refl w _⟩
    rcases hown.2 with ⟨rfl, hn⟩ | ⟨g, cap, cur, rfl, _, _, hnc, _⟩
    · subst hn
      simp [Builtin.append_, run_underlying ht, sizeOf, typeInfo, hi, Builtin.lenOf, Builtin.firstCells]
    · simp [Builtin.append_, run_underlying ht, sizeOf, typeInfo, hi, Builtin.lenOf, Builtin.firstCells, hnc, storeCells]
  · have hc : ∀ j u, (tab (m * k) V)[j]? = some u → w.cell? (ad.add j) = some u := by
      intro j u hu
      rw [tab_get] at hu
      split at hu
      · rename_i hj
        obtain ⟨b, o, h, _, hc⟩ := hr (by omega)
        injection h with h; subst h; injection hu with hu; subst hu
        rw [add_plain]
        exact hc j hj
      · cases hu
    obtain ⟨v', w', hrun, h2, h3, _⟩ := run_append_own (P := P) w base t ty e i z k bytes ht hi hz hsize hby hzs hk v n xs hown ad m c (tab (m * k) V) (by rw [tab_len]) hc h1 h63 hbytes hbase
    exact ⟨v', w', hrun, h2, h3⟩
theorem wpList_append_k {ops : Array Oper} {rest : List Oper} {o : Oper} {a : Act} {Q : Exit → Act → World → Prop} (hgd : o.guard = none) (s x : Operand) (t : TypeId)
    (ho : o.op = .call { callee := .builtin .append, args := #[s, x], argTypes := #[t, t] })
    (base : Nat) (e : TypeId) (i : TypeInfo) (z : Value) (k bytes : Nat) (ht : P.underlying t = some (.slice e)) (hi : P.info? e = some i) (hz : i.zero = some z)
    (hsize : i.size = k) (hby : i.bytes = bytes) (hzs : z.cells.size = k) (hk : 0 < k) (v : Value) (n : Nat) (xs : List Value) (hs : a.eval s = v) (hown : w.ownsRow base e k v n xs)
    (B : Nat) (A : Option Addr) (m c : Nat) (V : Nat → Value) (hx : a.eval x = .slice A m c) (hr : Rd w B A (m * k) V) (h1 : ∀ u ∈ tab (m * k) V, u.oneCell' = true) (hbytes : (n + m) * bytes ≤ 140737488355328) (h63 : n + m ≤ maxLen) (hbase : base ≤ w.heap.size)
    (h : ∀ v' w', w'.ownsRow base e k v' (n + m) (xs ++ tab (m * k) V) → w.grownBy w' v.ownBlock → wpList P ops Q rest (a.put o.dst v') w') :
    wpList P ops Q (o :: rest) a w := by
  refine wpList_plain hgd fun K hK => ?_
  obtain ⟨v', w', hr, h2, h3⟩ := run_append_k (P := P) w base t o.type e i z k bytes ht hi hz hsize hby hzs hk v n xs hown B A m c V hr h1 hbytes h63 hbase
  unfold Oper.wp execOp
  simp only [ho, resolve, invoke, builtin, Sem.run_bind, Sem.run_pure, Result.andThen_ok, List.map_toArray, List.map_cons, List.map_nil, hs, hx, hr]
  exact hK _ _ (h v' w' h2 h3)
end
/-- What an own row of such values, nil let in, reads as. -/
theorem own_k {w : World} {base : Nat} {e : TypeId} {v : Value} {n k : Nat} {V : Nat → Value} (hk : 0 < k) (h : w.ownsRow base e k v n (tab (n * k) V)) : ∃ A c, v = .slice A n c ∧ n ≤ c ∧ Rd w w.heap.size A (n * k) V ∧ (∀ q, v.ownBlock = some q → base ≤ q) := by
  have h' := h
  rcases h.2 with ⟨rfl, hn⟩ | ⟨g, cap, cur, rfl, hb, hh, hnc, _⟩
  · subst hn
    exact ⟨none, 0, rfl, Nat.le_refl _, by rw [Nat.zero_mul]; exact Rd.zero, fun q hq => by cases hq⟩
  · refine ⟨_, cap, rfl, hnc, fun hm => ⟨g, 0, rfl, ?_, fun j hj => ?_⟩, fun q hq => by simp [Value.ownBlock] at hq; omega⟩
    · rcases Nat.lt_or_ge g w.heap.size with hlt | hge
      · exact hlt
      · rw [Array.getElem?_eq_none hge] at hh; cases hh
    · have hcell := h'.cells (g := g) rfl
      rw [← add_plain]
      exact hcell j _ (by rw [tab_get, if_pos hj])
/-- An own row's cells. -/
theorem row_of_own_k {w : World} {base n k : Nat} {e : TypeId} {g cap : Nat} {V : Nat → Value} (hk : 0 < k) (h : w.ownsRow base e k (.slice (some ⟨g, 0, none⟩) n cap) n (tab (n * k) V)) : Row w g (n * k) V := by
  refine ⟨fun j hj => ?_, fun j => h.frozenAt j, ?_⟩
  · have hcell := h.cells (g := g) rfl j _ (by rw [tab_get, if_pos hj])
    rw [add_plain, Nat.zero_add] at hcell
    exact hcell
  · rcases h.2 with ⟨e1, _⟩ | ⟨g', c', cur, e1, _, hh, _⟩
    · cases e1
    · injection e1 with e1 _ _
      injection e1 with e1
      injection e1 with e1
      subst e1
      rcases Nat.lt_or_ge g w.heap.size with hlt | hge
      · exact hlt
      · rw [Array.getElem?_eq_none hge] at hh; cases hh
theorem own_since_k {w w' : World} {base n k : Nat} {e : TypeId} {v : Value} {xs : List Value} (h : w.ownsRow base e k v n xs) (s : Since w w') : w'.ownsRow base e k v n xs := by
  refine ⟨h.1, ?_⟩
  rcases h.2 with h0 | ⟨g, cap, cur, e1, hb, hh, r⟩
  · exact .inl h0
  · refine .inr ⟨g, cap, cur, e1, hb, ?_, r⟩
    have hlt : g < w.heap.size := by
      rcases Nat.lt_or_ge g w.heap.size with hlt | hge
      · exact hlt
      · rw [Array.getElem?_eq_none hge] at hh; cases hh
    rw [s.below.block g hlt]; exact hh
theorem tab_more (n m : Nat) (V : Nat → Value) : tab n V ++ tab m (fun t => V (n + t)) = tab (n + m) V := by
  rw [tab_append]
  refine tab_congr fun j hj => ?_
  by_cases h : j < n
  · rw [if_pos h]
  · rw [if_neg h, show n + (j - n) = j by omega]
theorem list_made (z : Array Value) (n : Nat) (V : Nat → Value) (hV : ∀ j, z[j % z.size]! = V j) : (madeCells z n).toList = tab n V := by
  apply List.ext_getElem?
  intro j
  rw [tab_get]
  by_cases hj : j < n
  · rw [if_pos hj]
    simp [madeCells, hj, hV]
  · rw [if_neg hj]
    simp [madeCells, hj]
section
variable {P : Program} (w : World)
/-- make([]T, n), T of k cells: an own row of zero values. -/
theorem wpList_make_k {ops : Array Oper} {rest : List Oper} {o : Oper} {a : Act} {Q : Exit → Act → World → Prop}
    (hg : o.guard = none) (l c : Operand) (t : TypeId) (hop : o.op = Op.makeSlice t l c)
    (e : TypeId) (i : TypeInfo) (z : Value) (k bytes : Nat) (h1 : P.underlying t = some (.slice e)) (h2 : P.info? e = some i) (h3 : i.zero = some z) (h4 : i.size = k) (h5 : i.bytes = bytes) (V : Nat → Value) (hV : ∀ j, z.cells[j % z.cells.size]! = V j)
    (kl kc : IntKind) (n : Nat) (hl : a.eval l = .int kl (n : Int)) (hc : a.eval c = .int kc (n : Int)) (b2 : bytes * n ≤ 281474976710656) (b3 : n ≤ maxLen)
    (hK : ∀ w', w'.ownsRow w.heap.size e k (.slice (some ⟨w.heap.size, 0, none⟩) n n) n (tab (n * k) V) → Since w w' → wpList P ops Q rest (a.put o.dst (.slice (some ⟨w.heap.size, 0, none⟩) n n)) w') :
    wpList P ops Q (o :: rest) a w := by
  refine wpList_make_full w hg l c t hop w.heap.size e i z k h1 h2 h3 h4 kl kc (n : Int) (n : Int) n hl hc rfl rfl (by rw [h5]; exact b2) b3 (Nat.le_refl _) (fun w' hown hgr => hK w' ?_ (since_grown (Since.refl w) hgr (fun k hk => by cases hk)))
  rw [list_made _ _ V hV] at hown
  exact hown
end
theorem rd_add_lit (a : Addr) (i j : Nat) : (a.add i).add j = a.add (i + j) := add_add a i j
/-- A new block that holds a value's cells, as a slice of one. -/
theorem rd_lit {w : World} {cs : Array Value} {t : TypeId} {b n : Nat} {V : Nat → Value} (hb : b = w.heap.size) (h : ∀ j, j < n → cs[j]? = some (V j)) : Rd (w.alloc (.cells cs t)) (w.alloc (.cells cs t)).heap.size (some ⟨b, 0, none⟩) n V := fun _ => by
  subst hb
  exact ⟨w.heap.size, 0, rfl, by simp, fun j hj => by rw [World.cell?_alloc_new, Nat.zero_add]; exact h j hj⟩
section
variable {H : Type} {enc : TypeId × Value → H} {P : Program} {W : World}
/-- A slice of values of k cells each that came in. -/
theorem open_flat {t e : TypeId} {k : Nat} {r : Reach} {b0 : Nat} {v : Value} {d : DataW H} {ps : List MemPlace} (ht : P.underlying t = some (.slice e)) (ce : P.cellsOf e = k) (hk : 0 < k)
    (hval : Value.okWide P W r b0 t v) (h : DataW.Trod enc P W 0 (fun _ => true) true t v d ps) (hlt : ∀ x ∈ ps, x.block < W.heap.size) :
    ∃ (A : Option Addr) (n c : Nat) (V : Nat → Value), v = .slice A n c ∧ n ≤ c ∧ c ≤ maxLen ∧ Rd W W.heap.size A (n * k) V ∧ (∀ i, i < n → ∃ m x, DataW.trod enc P W 0 (fun _ => true) true m e (tab k (fun j => V (i * k + j))) = some x) ∧ (c = 0 ∨ ∃ el sp, d = .slice el sp ∧ el.length + sp.length = c) := by
  obtain ⟨A, n, c, rfl⟩ := okWide_slice ht hval
  obtain ⟨fuel, hf⟩ := h
  rcases open_slice ht hf with ⟨hcs, hx⟩ | ⟨a, len, cap, m, z, D, Pl, hcs, _, hl, hm, hmm, hx, hall⟩
  · simp [Value.cells] at hcs
    obtain ⟨rfl, rfl, rfl⟩ := hcs
    exact ⟨none, 0, 0, fun _ => undef, rfl, Nat.le_refl _, Nat.zero_le _, by rw [Nat.zero_mul]; exact Rd.zero, fun j hj => absurd hj (by omega), .inl rfl⟩
  · simp [Value.cells] at hcs
    obtain ⟨rfl, rfl, rfl⟩ := hcs
    simp only [if_true] at hmm
    subst hmm
    simp only [Prod.mk.injEq] at hx
    obtain ⟨rfl, rfl⟩ := hx
    have each : ∀ j, j < m → ∃ cs : List Value, cs.length = k ∧ (∀ i, i < k → W.cell? (a.add (j * k + i)) = cs[i]?) ∧ ∃ m' x, DataW.trod enc P W 0 (fun _ => true) true m' e cs = some x := by
      intro j hj
      obtain ⟨cs', g1, g2⟩ := hall j hj
      rw [ce] at g1
      obtain ⟨_, hlen, hcell⟩ := World.cells?_some g1
      refine ⟨cs', hlen, fun i hi => ?_, _, _, g2⟩
      have c0 := hcell i (by omega)
      rw [add_add] at c0
      exact c0
    obtain ⟨q, hq⟩ := choose_lt each
    have hV : ∀ j, j < m → ∀ i, i < k → W.cell? (a.add (j * k + i)) = some ((q j).getD i undef) := fun j hj i hi => by
      obtain ⟨h1, h2, _⟩ := hq j hj
      rw [h2 i hi, List.getElem?_eq_getElem (by omega)]
      simp [List.getD, show i < (q j).length by omega]
    refine ⟨some a, n, m, fun j => (q (j / k)).getD (j % k) undef, rfl, hl, hm, ?_, fun i hi => ?_, .inr ⟨_, _, rfl, ?_⟩⟩
    · intro hn
      have hspot : a.spot = none := by
        have h0 := hV 0 (by rcases Nat.eq_zero_or_pos m with h0 | h0 <;> (try subst h0) <;> (try simp at hl) <;> (try subst hl) <;> (try simp at hn) <;> omega) 0 hk
        rw [Nat.zero_mul, Nat.add_zero] at h0
        cases hsp : a.spot with
        | none => rfl
        | some s =>
          have e : (a.add 0).spot = some s := by unfold Addr.add; split <;> simp_all
          simp only [World.cell?] at h0
          split at h0
          · simp [e] at h0
          · cases h0
      obtain ⟨b, o, s⟩ := a
      simp only at hspot
      subst hspot
      have hmk : 0 < m * k := Nat.lt_of_lt_of_le hn (Nat.mul_le_mul_right _ hl)
      refine ⟨b, o, rfl, hlt (.cell b (o + 0)) (List.mem_append_left _ (MemPlace.mem_row.2 ⟨0, by rw [ce]; exact hmk, rfl⟩)), fun j hj => ?_⟩
      have hjk : j / k < m := by rw [Nat.div_lt_iff_lt_mul hk]; exact Nat.lt_of_lt_of_le hj (Nat.mul_le_mul_right _ hl)
      have h1 := hV (j / k) hjk (j % k) (Nat.mod_lt _ hk)
      rw [Nat.div_add_mod' j k] at h1
      rw [← add_plain]
      exact h1
    · obtain ⟨h1, h2, m', x, h3⟩ := hq i (by omega)
      refine ⟨m', x, ?_⟩
      rw [← h3]
      congr 1
      apply List.ext_getElem?
      intro j
      rw [tab_get]
      split
      · rename_i hj
        have e1 : (i * k + j) / k = i := by rw [Nat.add_comm, Nat.add_mul_div_right _ _ hk, Nat.div_eq_of_lt hj, Nat.zero_add]
        have e2 : (i * k + j) % k = j := by rw [Nat.add_comm, Nat.add_mul_mod_self_right, Nat.mod_eq_of_lt hj]
        simp only [e1, e2]
        rw [List.getElem?_eq_getElem (by omega)]
        simp [List.getD, show j < (q i).length by omega]
      · rw [List.getElem?_eq_none (by omega)]
    · simp; omega
end
end Go.Proofs.Ytpplnapfpoloiaa
