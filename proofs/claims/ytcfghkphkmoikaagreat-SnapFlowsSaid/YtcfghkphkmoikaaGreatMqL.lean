/-
  Texts of this seat, put together: each with its own head.
-/
import Derived.Test.YtcfghkphkmoikaaGreatKitLn
import Derived.Test.YtcfghkphkmoikaaGreatMqH
import Derived.Lib.SmallJoins
import Derived.Test.YtcfghkphkmoikaaGreatMqK
import Derived.JoinedCond

/-
  Two slices of lines that came in as one struct, read as two lists of lines.
-/
namespace Go.Proofs.YtcfghkphkmoikaaGreat
set_option maxRecDepth 100000
open Go.RowKit Go.ChangeShapes Go.WideShapes Go.Deep Go.Joins
set_option linter.unusedVariables false
set_option linter.unusedSimpArgs false
section
variable {H : Type} {enc : TypeId × Value → H} {P : Program} {W : World}
theorem open_lnd {t e t0 : TypeId} {v : Value} {d : DataW H} {ps : List MemPlace} (ht : P.underlying t = some (.slice e)) (ce : P.cellsOf e = 4) (l0 : leafAt P 6 e 0 = some t0) (l1 : leafAt P 6 e 1 = some t0) (l2 : leafAt P 6 e 2 = some t0) (l3 : leafAt P 6 e 3 = some t0) (k0 : P.underlying t0 = some (.int .i64))
    (hval : ∃ A n c, v = .slice A n c) (h : DataW.Trod enc P W 0 (fun _ => true) true t v d ps) (hlt : ∀ x ∈ ps, x.block < W.heap.size) :
    ∃ (A : Option Addr) (c : Nat) (L : List Ln), v = .slice A L.length c ∧ L.length ≤ maxLen ∧ RdG 4 lnE W W.heap.size A L ∧ (∀ x ∈ L, x.wf) ∧ L.length ≤ c ∧ (c = 0 ∨ ∃ el sp, d = .slice el sp ∧ el.length + sp.length = c) := by
  obtain ⟨A, n, c, V, rfl, hnc, hcm, hr, hall, hz⟩ := open_flat2 ht ce (by omega) hval h hlt
  have each : ∀ i, i < n → ∀ j, j < 4 → V (i * 4 + j) = .int .i64 (numZ (V (i * 4 + j))) ∧ (Lit.int .i64 (numZ (V (i * 4 + j)))).wf = true := fun i hi j hj => by
    obtain ⟨m, x, hx⟩ := hall i hi
    have hl : leafAt P 6 e j = some t0 := by
      have h : j = 0 ∨ j = 1 ∨ j = 2 ∨ j = 3 := by omega
      rcases h with rfl | rfl | rfl | rfl <;> assumption
    obtain ⟨u0, m0, y0, a1, a2, _⟩ := leaf_at 6 e t0 j hl m _ x hx
    obtain ⟨p, ep, _, wp⟩ := DataW.trod_int k0 a2
    injection ep with ep
    rw [tab_get, if_pos (by omega)] at a1
    injection a1 with a1
    subst ep
    rw [a1]
    exact ⟨rfl, wp⟩
  let F : Nat → Ln := fun i => ⟨numZ (V (i * 4)), numZ (V (i * 4 + 1)), numZ (V (i * 4 + 2)), numZ (V (i * 4 + 3))⟩
  have hlen : ((List.range n).map F).length = n := by simp
  refine ⟨A, c, (List.range n).map F, by rw [hlen], by rw [hlen]; omega, fun hn => ?_, fun x hx => ?_, by rw [hlen]; exact hnc, hz⟩
  · rw [hlen] at hn
    obtain ⟨b, o, rfl, hb, hc⟩ := hr (by omega)
    refine ⟨b, o, rfl, hb, fun j s hj i hi => ?_⟩
    have hjn : j < n := by
      rcases Nat.lt_or_ge j n with h | h
      · exact h
      · rw [List.getElem?_eq_none (by rw [hlen]; exact h)] at hj; cases hj
    rw [List.getElem?_map, List.getElem?_range hjn] at hj
    simp only [Option.map_some, Option.some.injEq] at hj
    subst hj
    rw [Nat.add_assoc, hc (j * 4 + i) (by omega), (each j hjn i hi).1]
    have h : i = 0 ∨ i = 1 ∨ i = 2 ∨ i = 3 := by omega
    rcases h with rfl | rfl | rfl | rfl <;> rfl
  · rw [List.mem_map] at hx
    obtain ⟨i, hi, rfl⟩ := hx
    have hin : i < n := by simpa using hi
    exact ⟨⟨in64_lit (each i hin 0 (by omega)).2, in64_lit (each i hin 1 (by omega)).2⟩, in64_lit (each i hin 2 (by omega)).2, in64_lit (each i hin 3 (by omega)).2⟩
theorem open_twolines {t ts e t0 : TypeId} {f0 f1 : Field} {r : Reach} {b0 : Nat} {v : Value} {d : DataW H} {ps : List MemPlace} (hs : P.underlying t = some (.struct #[f0, f1])) (hone : oneCellFields P #[f0, f1] = true) (hC : P.cellsOf t = 2) (e0 : f0.type = ts) (e1 : f1.type = ts) (ht : P.underlying ts = some (.slice e)) (ce : P.cellsOf e = 4) (l0 : leafAt P 6 e 0 = some t0) (l1 : leafAt P 6 e 1 = some t0) (l2 : leafAt P 6 e 2 = some t0) (l3 : leafAt P 6 e 3 = some t0) (k0 : P.underlying t0 = some (.int .i64))
    (hval : Value.okWide P W r b0 t v) (h : DataW.Trod enc P W 0 (fun _ => true) true t v d ps) (hlt : ∀ x ∈ ps, x.block < W.heap.size) (n : Nat) (hn : 0 < n) (hb : P.bytesOf e = n) (hw : ∀ x ∈ d.weights P t, x ≤ reachBytes) :
    ∃ (A B : Option Addr) (c d : Nat) (L M : List Ln), v = .agg #[.slice A L.length c, .slice B M.length d] ∧ RdG 4 lnE W W.heap.size A L ∧ RdG 4 lnE W W.heap.size B M ∧ (∀ x ∈ L, x.wf) ∧ (∀ x ∈ M, x.wf) ∧ L.length ≤ c ∧ M.length ≤ d ∧ c * n ≤ reachBytes ∧ d * n ≤ reachBytes := by
  obtain ⟨v0, v1, y0, y1, n', rfl, rfl, rfl, h0, h1⟩ := open_agg2 hs hone hC hval h
  rw [e0] at h0
  rw [e1] at h1
  have hsl : ∀ {v : Value} {n : Nat} {y : DataW H × List MemPlace}, DataW.trod enc P W 0 (fun _ => true) true n ts [v] = some y → (∃ A m c, v = .slice A m c) := fun {v n y} h => by
    rcases open_slice ht h with ⟨hcs, _⟩ | ⟨a, len, cap, m, z, D, Pl, hcs, _⟩
    · simp at hcs; exact ⟨_, _, _, hcs⟩
    · simp at hcs; exact ⟨_, _, _, hcs⟩
  have htr : ∀ {v : Value} {n : Nat} {y : DataW H × List MemPlace}, (∃ A m c, v = .slice A m c) → DataW.trod enc P W 0 (fun _ => true) true n ts [v] = some y → DataW.Trod enc P W 0 (fun _ => true) true ts v y.1 y.2 := fun {v n y} hv h => by
    obtain ⟨A, m, c, rfl⟩ := hv
    exact ⟨n, h⟩
  obtain ⟨A, c, L, rfl, _, a2, a3, a4, a5⟩ := open_lnd ht ce l0 l1 l2 l3 k0 (hsl h0) (htr (hsl h0) h0) (fun x hx => hlt x (List.mem_append_left _ hx))
  obtain ⟨B, d, M, rfl, _, b2, b3, b4, b5⟩ := open_lnd ht ce l0 l1 l2 l3 k0 (hsl h1) (htr (hsl h1) h1) (fun x hx => hlt x (List.mem_append_right _ hx))
  have hin : ∀ (x : Nat), (x ∈ y0.1.weights P ts ∨ x ∈ y1.1.weights P ts) → x ≤ reachBytes := fun x hx => hw x (by
    simp only [DataW.weights, hs, DataW.weightsEach, Array.toList, List.map_cons, List.map_nil, List.mem_append, e0, e1]
    rcases hx with hx | hx
    · exact .inl hx
    · exact .inr (.inl hx))
  refine ⟨A, B, c, d, L, M, rfl, a2, b2, a3, b3, a4, b4, ?_, ?_⟩
  · rcases a5 with rfl | ⟨el, sp, e, hl⟩
    · omega
    · rw [← hl, ← hb]
      exact hin _ (.inl (by rw [e]; simp [DataW.weights, ht]))
  · rcases b5 with rfl | ⟨el, sp, e, hl⟩
    · omega
    · rw [← hl, ← hb]
      exact hin _ (.inr (by rw [e]; simp [DataW.weights, ht]))
end
end Go.Proofs.YtcfghkphkmoikaaGreat

/-
  What the second form's premise gives: bounds on lengths.
-/
namespace Go.Proofs.YtcfghkphkmoikaaGreat
set_option maxRecDepth 100000
theorem bulk_pos {H : Type} (d : DataW H) : 0 < Rows.uptoBulk d := by
  cases d with
  | lit l => cases l <;> simp [Rows.uptoBulk]
  | _ => simp [Rows.uptoBulk]
theorem bulk_count {H : Type} : ∀ l : List (DataW H), l.length ≤ Rows.uptoBulkAll l
  | [] => by simp [Rows.uptoBulkAll]
  | d :: l => by
    have h1 := bulk_pos d; have h2 := bulk_count l
    simp only [Rows.uptoBulkAll, List.length_cons]; omega
theorem bulk_slice {H : Type} {c : Nat} {d : DataW H} (h : c = 0 ∨ ∃ el sp, d = .slice el sp ∧ el.length + sp.length = c) : c < Rows.uptoBulk d := by
  rcases h with rfl | ⟨el, sp, rfl, rfl⟩
  · exact bulk_pos d
  · have h1 := bulk_count el; have h2 := bulk_count sp
    simp only [Rows.uptoBulk]; omega
theorem bulk_all {H : Type} {l : List (DataW H)} (h : Rows.uptoSmall H (l ++ []) = true) : Rows.uptoBulkAll l ≤ 1048576 := by
  rw [List.append_nil] at h
  exact of_decide_eq_true h
end Go.Proofs.YtcfghkphkmoikaaGreat
