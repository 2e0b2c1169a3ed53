/-
  Layer 10: append of points to a row of the call's own that may be nil.
-/
import Derived.Test.YtbbbojhncfdbdaaGaP
namespace Go.Proofs.Ytbbbojhncfdbdaa
open Go.RowKit Go.ChangeShapes Go.WideShapes Go.Deep
set_option linter.unusedVariables false
section
variable {P : Program} (w : World)
theorem run_append_pta (base : Nat) (t ty e : TypeId) (i : TypeInfo) (z : Value) (bytes : Nat) (ht : P.underlying t = some (.slice e)) (hi : P.info? e = some i) (hz : i.zero = some z)
    (hsize : i.size = 2) (hby : i.bytes = bytes) (hzs : z.cells.size = 2) (v : Value) (n : Nat) (xs : List Value) (hown : w.ownsRow base e 2 v n xs)
    (B : Nat) (A : Option Addr) (m c : Nat) (X Y : Nat → Int) (hr : RdP w B A m X Y) (hbytes : (n + m) * bytes ≤ 140737488355328) (h63 : n + m ≤ maxLen) (hbase : base ≤ w.heap.size) :
    ∃ v' w', (Builtin.append_ #[t, t] ty #[v, .slice A m c]).run P w = .ok v' w' ∧ w'.ownsRow base e 2 v' (n + m) (xs ++ tab (m * 2) (PtV X Y)) ∧ w.grownBy w' v.ownBlock := by
  rcases A with _ | ad
  · have hm : m = 0 := by
      rcases Nat.eq_zero_or_pos m with h0 | h0
      · exact h0
      · obtain ⟨b, o, h, _⟩ := hr h0; cases h
    subst hm
    refine ⟨v, w, ?_, by simpa [tab_zero] using hown, World.grownBy.refl w _⟩
    rcases hown.2 with ⟨rfl, hn⟩ | ⟨g, cap, cur, rfl, _, _, hnc, _⟩
    · subst hn
      simp [Builtin.append_, run_underlying ht, sizeOf, typeInfo, hi, Builtin.lenOf, Builtin.firstCells]
    · simp [Builtin.append_, run_underlying ht, sizeOf, typeInfo, hi, Builtin.lenOf, Builtin.firstCells, hnc, storeCells]
  · have hc : ∀ j u, (tab (m * 2) (PtV X Y))[j]? = some u → w.cell? (ad.add j) = some u := by
      intro j u hu
      rw [tab_get] at hu
      split at hu
      · rename_i hj
        obtain ⟨b, o, h, _, hc⟩ := hr (by omega)
        injection h with h; subst h; injection hu with hu; subst hu
        rw [add_plain]
        obtain ⟨h1, h2⟩ := hc (j / 2) (by omega)
        unfold PtV
        by_cases hp : j % 2 = 0
        · rw [if_pos hp, ← h1, show o + j / 2 * 2 = o + j by omega]
        · rw [if_neg hp, ← h2, show o + j / 2 * 2 + 1 = o + j by omega]
      · cases hu
    have h1 : ∀ u ∈ tab (m * 2) (PtV X Y), u.oneCell' = true := by
      intro u hu
      unfold tab at hu
      obtain ⟨k, _, rfl⟩ := List.mem_map.1 hu
      rfl
    obtain ⟨v', w', hrun, h2, h3, _⟩ := run_append_own (P := P) w base t ty e i z 2 bytes ht hi hz hsize hby hzs (by omega) v n xs hown ad m c (tab (m * 2) (PtV X Y)) (by rw [tab_len]) hc h1 h63 hbytes hbase
    exact ⟨v', w', hrun, h2, h3⟩
theorem wpList_append_pta {ops : Array Oper} {rest : List Oper} {o : Oper} {a : Act} {Q : Exit → Act → World → Prop} (hgd : o.guard = none) (s x : Operand) (t : TypeId)
    (ho : o.op = .call { callee := .builtin .append, args := #[s, x], argTypes := #[t, t] })
    (base : Nat) (e : TypeId) (i : TypeInfo) (z : Value) (bytes : Nat) (ht : P.underlying t = some (.slice e)) (hi : P.info? e = some i) (hz : i.zero = some z)
    (hsize : i.size = 2) (hby : i.bytes = bytes) (hzs : z.cells.size = 2) (v : Value) (n : Nat) (xs : List Value) (hs : a.eval s = v) (hown : w.ownsRow base e 2 v n xs)
    (B : Nat) (A : Option Addr) (m c : Nat) (X Y : Nat → Int) (hx : a.eval x = .slice A m c) (hr : RdP w B A m X Y) (hbytes : (n + m) * bytes ≤ 140737488355328) (h63 : n + m ≤ maxLen) (hbase : base ≤ w.heap.size)
    (h : ∀ v' w', w'.ownsRow base e 2 v' (n + m) (xs ++ tab (m * 2) (PtV X Y)) → w.grownBy w' v.ownBlock → wpList P ops Q rest (a.put o.dst v') w') :
    wpList P ops Q (o :: rest) a w := by
  refine wpList_plain hgd fun K hK => ?_
  obtain ⟨v', w', hr, h2, h3⟩ := run_append_pta (P := P) w base t o.type e i z bytes ht hi hz hsize hby hzs v n xs hown B A m c X Y hr hbytes h63 hbase
  unfold Oper.wp execOp
  simp only [ho, resolve, invoke, builtin, Sem.run_bind, Sem.run_pure, Result.andThen_ok, List.map_toArray, List.map_cons, List.map_nil, hs, hx, hr]
  exact hK _ _ (h v' w' h2 h3)
end
/-- Two rows of points, one behind the other. -/
def joinP (n : Nat) (X U : Nat → Int) (j : Nat) : Int := if j < n then X j else U (j - n)
theorem tab_join (n m : Nat) (X Y U V : Nat → Int) : tab (n * 2) (PtV X Y) ++ tab (m * 2) (PtV U V) = tab ((n + m) * 2) (PtV (joinP n X U) (joinP n Y V)) := by
  rw [tab_append, Nat.add_mul]
  refine tab_congr fun j hj => ?_
  by_cases h : j < n * 2
  · rw [if_pos h]
    unfold PtV joinP
    have e1 : j / 2 < n := by omega
    simp only [e1, if_true]
  · rw [if_neg h]
    unfold PtV joinP
    have e1 : ¬ j / 2 < n := by omega
    have e2 : (j - n * 2) % 2 = j % 2 := by omega
    have e3 : (j - n * 2) / 2 = j / 2 - n := by omega
    simp only [e1, e2, e3, if_false]
/-- What an own row of points, nil let in, reads as. -/
theorem own_pts {w : World} {base : Nat} {e : TypeId} {v : Value} {n : Nat} {X Y : Nat → Int} (h : w.ownsRow base e 2 v n (tab (n * 2) (PtV X Y))) : ∃ A c, v = .slice A n c ∧ n ≤ c ∧ RdP w w.heap.size A n X Y ∧ (∀ k, v.ownBlock = some k → base ≤ k) := by
  have h' := h
  rcases h.2 with ⟨rfl, hn⟩ | ⟨g, cap, cur, rfl, hb, hh, hnc, _⟩
  · subst hn
    exact ⟨none, 0, rfl, Nat.le_refl _, RdP.zero, fun k hk => by cases hk⟩
  · refine ⟨_, cap, rfl, hnc, fun hm => ⟨g, 0, rfl, ?_, fun j hj => ?_⟩, fun k hk => by simp [Value.ownBlock] at hk; omega⟩
    · rcases Nat.lt_or_ge g w.heap.size with hlt | hge
      · exact hlt
      · rw [Array.getElem?_eq_none hge] at hh; cases hh
    · have hcell := h'.cells (g := g) rfl
      have a1 := hcell (j * 2) (.int .i64 (X j)) (by rw [tab_get, if_pos (by omega), ptv_even])
      have a2 := hcell (j * 2 + 1) (.int .i64 (Y j)) (by rw [tab_get, if_pos (by omega), ptv_odd])
      exact ⟨by rw [← add_plain]; exact a1, by rw [Nat.add_assoc, ← add_plain]; exact a2⟩
end Go.Proofs.Ytbbbojhncfdbdaa
