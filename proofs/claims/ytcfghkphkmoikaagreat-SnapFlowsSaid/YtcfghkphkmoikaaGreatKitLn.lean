/-
  A slice of lines that came in, read as a list of lines.
-/
import Derived.Test.YtcfghkphkmoikaaGreatPxK
namespace Go.Proofs.YtcfghkphkmoikaaGreat
set_option maxRecDepth 100000
open Go.RowKit Go.ChangeShapes Go.WideShapes Go.Deep
set_option linter.unusedVariables false

def numZ : Value → Int
  | .int _ n => n
  | _ => 0
theorem in64_lit {a : Int} (h : (Lit.int .i64 a).wf = true) : In64 a := by
  have h : -9223372036854775808 ≤ a ∧ a ≤ 9223372036854775807 := by simpa [Lit.wf, IntKind.min, IntKind.max, IntKind.signed, IntKind.bits] using h
  unfold In64
  omega
section
variable {H : Type} {enc : TypeId × Value → H} {P : Program} {W : World}
theorem open_lnc {t e t0 : TypeId} {r : Reach} {b0 : Nat} {v : Value} {d : DataW H} {ps : List MemPlace} (ht : P.underlying t = some (.slice e)) (ce : P.cellsOf e = 4) (l0 : leafAt P 6 e 0 = some t0) (l1 : leafAt P 6 e 1 = some t0) (l2 : leafAt P 6 e 2 = some t0) (l3 : leafAt P 6 e 3 = some t0) (k0 : P.underlying t0 = some (.int .i64))
    (hval : Value.okWide P W r b0 t v) (h : DataW.Trod enc P W 0 (fun _ => true) true t v d ps) (hlt : ∀ x ∈ ps, x.block < W.heap.size) :
    ∃ (A : Option Addr) (c : Nat) (L : List Ln), v = .slice A L.length c ∧ L.length ≤ maxLen ∧ RdG 4 lnE W W.heap.size A L ∧ (∀ x ∈ L, x.wf) ∧ L.length ≤ c ∧ (c = 0 ∨ ∃ el sp, d = .slice el sp ∧ el.length + sp.length = c) := by
  obtain ⟨A, n, c, V, rfl, hnc, hcm, hr, hall, hz⟩ := open_flat ht ce (by omega) hval h hlt
  have each : ∀ i, i < n → ∀ j, j < 4 → V (i * 4 + j) = .int .i64 (numZ (V (i * 4 + j))) ∧ (Lit.int .i64 (numZ (V (i * 4 + j)))).wf = true := fun i hi j hj => by
    obtain ⟨m, x, hx⟩ := hall i hi
    have hl : leafAt P 6 e j = some t0 := by
      have h : j = 0 ∨ j = 1 ∨ j = 2 ∨ j = 3 := by omega
      rcases h with rfl | rfl | rfl | rfl <;> assumption
    obtain ⟨u0, m0, y0, a1, a2, _⟩ := leaf_at 6 e t0 j hl m _ x hx
    obtain ⟨p, ep, _, wp⟩ := DataW.trod_int k0 a2
    injection ep with ep
    rw [tab_get, if_pos (by omega)] at a1
    injection a1 with a1
    subst ep
    rw [a1]
    exact ⟨rfl, wp⟩
  let F : Nat → Ln := fun i => ⟨numZ (V (i * 4)), numZ (V (i * 4 + 1)), numZ (V (i * 4 + 2)), numZ (V (i * 4 + 3))⟩
  have hlen : ((List.range n).map F).length = n := by simp
  refine ⟨A, c, (List.range n).map F, by rw [hlen], by rw [hlen]; omega, fun hn => ?_, fun x hx => ?_, by rw [hlen]; exact hnc, hz⟩
  · rw [hlen] at hn
    obtain ⟨b, o, rfl, hb, hc⟩ := hr (by omega)
    refine ⟨b, o, rfl, hb, fun j s hj i hi => ?_⟩
    have hjn : j < n := by
      rcases Nat.lt_or_ge j n with h | h
      · exact h
      · rw [List.getElem?_eq_none (by rw [hlen]; exact h)] at hj; cases hj
    rw [List.getElem?_map, List.getElem?_range hjn] at hj
    simp only [Option.map_some, Option.some.injEq] at hj
    subst hj
    rw [Nat.add_assoc, hc (j * 4 + i) (by omega), (each j hjn i hi).1]
    have h : i = 0 ∨ i = 1 ∨ i = 2 ∨ i = 3 := by omega
    rcases h with rfl | rfl | rfl | rfl <;> rfl
  · rw [List.mem_map] at hx
    obtain ⟨i, hi, rfl⟩ := hx
    have hin : i < n := by simpa using hi
    exact ⟨⟨in64_lit (each i hin 0 (by omega)).2, in64_lit (each i hin 1 (by omega)).2⟩, in64_lit (each i hin 2 (by omega)).2, in64_lit (each i hin 3 (by omega)).2⟩
theorem open_ln {t e t0 : TypeId} {r : Reach} {b0 : Nat} {v : Value} {d : DataW H} {ps : List MemPlace} (ht : P.underlying t = some (.slice e)) (ce : P.cellsOf e = 4) (l0 : leafAt P 6 e 0 = some t0) (l1 : leafAt P 6 e 1 = some t0) (l2 : leafAt P 6 e 2 = some t0) (l3 : leafAt P 6 e 3 = some t0) (k0 : P.underlying t0 = some (.int .i64))
    (hval : Value.okWide P W r b0 t v) (h : DataW.Trod enc P W 0 (fun _ => true) true t v d ps) (hlt : ∀ x ∈ ps, x.block < W.heap.size) :
    ∃ (A : Option Addr) (c : Nat) (L : List Ln), v = .slice A L.length c ∧ L.length ≤ maxLen ∧ RdG 4 lnE W W.heap.size A L ∧ (∀ x ∈ L, x.wf) := by
  obtain ⟨A, c, L, h1, h2, h3, h4, _⟩ := open_lnc ht ce l0 l1 l2 l3 k0 hval h hlt
  exact ⟨A, c, L, h1, h2, h3, h4⟩
end
end Go.Proofs.YtcfghkphkmoikaaGreat
