/-
  Tables that came in.
-/
import Derived.Test.YtpplnapfpoloiaaKitTb
import Derived.Test.YtpplnapfpoloiaaKitGl
namespace Go.Proofs.Ytpplnapfpoloiaa
open Go.RowKit Go.ChangeShapes Go.WideShapes Go.Deep Go.Joins
set_option linter.unusedVariables false
section
variable {H : Type} {enc : TypeId × Value → H} {P : Program} {W : World}
/-- What a table is that came in. -/
structure InT where
  (tag : ByteArray) (A : Option Addr) (n c : Nat) (f : Nat → Int)
instance : Inhabited InT := ⟨⟨ByteArray.empty, none, 0, 0, fun _ => 0⟩⟩
theorem open_tables {t e ts tb tu : TypeId} {f0 f1 : Field} {v : Value} {d : DataW H} {ps : List MemPlace} (ht : P.underlying t = some (.slice e)) (hs : P.underlying e = some (.struct #[f0, f1])) (hone : oneCellFields P #[f0, f1] = true) (hC : P.cellsOf e = 2)
    (e0 : f0.type = ts) (e1 : f1.type = tb) (hst : P.underlying ts = some .string) (hb : P.underlying tb = some (.slice tu)) (hu : P.underlying tu = some (.int .u8)) (cu : P.cellsOf tu = 1)
    (hval : ∃ A n c, v = .slice A n c) (h : DataW.Trod enc P W 0 (fun _ => true) true t v d ps) (hlt : ∀ x ∈ ps, x.block < W.heap.size) :
    ∃ (A : Option Addr) (c : Nat) (TT : List Tb), v = .slice A TT.length c ∧ TT.length ≤ maxLen ∧ RdTL W W.heap.size A TT ∧ (∀ T, T ∈ TT → T.data.length ≤ maxLen ∧ T.tag.size ≤ maxLen) ∧ (∀ T, T ∈ TT → ∀ x, x ∈ T.data → (Lit.int .u8 x).wf = true) := by
  obtain ⟨A, n, c, rfl⟩ := hval
  obtain ⟨fuel, hf⟩ := h
  rcases open_slice ht hf with ⟨hcs, hx⟩ | ⟨a, len, cap, m, nf, D, Pl, hcs, _, hl, hm, hmm, hx, hall⟩
  · simp [Value.cells] at hcs
    obtain ⟨rfl, rfl, rfl⟩ := hcs
    exact ⟨none, 0, [], rfl, Nat.zero_le _, RdTL.nil, (by intro L hL; cases hL), (by intro L hL; cases hL)⟩
  · simp [Value.cells] at hcs
    obtain ⟨rfl, rfl, rfl⟩ := hcs
    simp only [if_true] at hmm
    subst hmm
    simp only [Prod.mk.injEq] at hx
    obtain ⟨rfl, rfl⟩ := hx
    have each : ∀ r, r < n → ∃ y : InT, W.cell? (a.add (r * 2)) = some (.string y.tag) ∧ W.cell? (a.add (r * 2 + 1)) = some (.slice y.A y.n y.c) ∧ y.tag.size ≤ maxLen ∧ y.n ≤ maxLen ∧ Rd W W.heap.size y.A y.n (IntRow .u8 y.f) ∧ ∀ j, j < y.n → (Lit.int .u8 (y.f j)).wf = true := by
      intro r hr
      obtain ⟨cs', g1, g2⟩ := hall r (by omega)
      rw [hC] at g1
      obtain ⟨_, hlen, hcell⟩ := World.cells?_some g1
      obtain ⟨x0, x1, rfl⟩ : ∃ x0 x1, cs' = [x0, x1] := by
        rcases cs' with _ | ⟨x0, _ | ⟨x1, _ | ⟨x2, l⟩⟩⟩
        · simp at hlen
        · simp at hlen
        · exact ⟨x0, x1, rfl⟩
        · simp at hlen
      obtain ⟨y0, y1, n', hxx, _, h0, h1⟩ := trod_struct2 hs g2
      obtain ⟨o0, k0⟩ := hone_of hone 0 f0 rfl
      obtain ⟨o1, k1⟩ := hone_of hone 1 f1 rfl
      have t0 : DataW.trod enc P W 0 (fun _ => true) true n' ts [x0] = some y0 := by rw [← e0]; simpa [Value.cells, o0, k0] using h0
      have t1 : DataW.trod enc P W 0 (fun _ => true) true n' tb [x1] = some y1 := by rw [← e1]; simpa [Value.cells, o1, k1] using h1
      simp only [Prod.mk.injEq] at hxx
      obtain ⟨s, es, _, hss⟩ := DataW.trod_string hst t0
      injection es with es
      subst es
      obtain ⟨A1, m1, c1, hv1⟩ := shape_slice hb t1
      obtain ⟨B, m, k, f, rfl, b2, b3, b4, b5, _⟩ := open_rd2 hb hu cu ⟨_, _, _, hv1⟩ (trod_one hv1 t1) (fun x hx => hlt x (List.mem_append_right _ (List.mem_flatMap.2 ⟨r, by simp; omega, by rw [hxx.2]; exact List.mem_append_right _ hx⟩)))
      have c0 := hcell 0 (by omega)
      have c1' := hcell 1 (by omega)
      rw [add_add] at c0 c1'
      rw [Nat.add_zero] at c0
      exact ⟨⟨s, B, m, k, f⟩, c0, c1', hss, Nat.le_trans b2 b3, b4, b5⟩
    obtain ⟨y, hy⟩ := choose_lt each
    refine ⟨some a, m, (List.range n).map fun r => ⟨(y r).tag, (List.range (y r).n).map (y r).f⟩, by simp, by simp; omega, ⟨(List.range n).map fun r => ⟨(y r).tag, (y r).A, (y r).n, (y r).c⟩, by simp, fun hn => ?_, fun j x T h1 h2 => ?_⟩, fun T hT => ?_, fun T hT x hx => ?_⟩
    · have hn0 : 0 < n := by simpa using hn
      have hspot : a.spot = none := by
        have h0 := (hy 0 hn0).1
        rw [Nat.zero_mul] at h0
        cases hsp : a.spot with
        | none => rfl
        | some s =>
          have e : (a.add 0).spot = some s := by unfold Addr.add; split <;> simp_all
          simp only [World.cell?] at h0
          split at h0
          · simp [e] at h0
          · cases h0
      obtain ⟨b, o, s⟩ := a
      simp only at hspot
      subst hspot
      refine ⟨b, o, rfl, hlt (.cell b (o + 0)) (List.mem_append_left _ (MemPlace.mem_row.2 ⟨0, by rw [hC]; omega, rfl⟩)), fun j s hj i hi => ?_⟩
      have hjn : j < n := by
        rcases Nat.lt_or_ge j n with h | h
        · exact h
        · rw [List.getElem?_eq_none (by simp; omega)] at hj; cases hj
      rw [List.getElem?_map, List.getElem?_range hjn] at hj
      simp only [Option.map_some, Option.some.injEq] at hj
      subst hj
      obtain ⟨q1, q2, _⟩ := hy j hjn
      rw [add_plain] at q1 q2
      have hi2 : i = 0 ∨ i = 1 := by omega
      rcases hi2 with rfl | rfl
      · rw [Nat.add_zero]; exact q1
      · rw [Nat.add_assoc]; exact q2
    · rw [List.getElem?_map] at h1 h2
      by_cases hjn : j < n
      · rw [List.getElem?_range hjn] at h1 h2
        simp only [Option.map_some, Option.some.injEq] at h1 h2
        subst h1 h2
        obtain ⟨_, _, _, _, h3, _⟩ := hy j hjn
        exact ⟨rfl, by simp, rdb_map h3⟩
      · rw [List.getElem?_eq_none (by simp; omega)] at h1
        cases h1
    · rw [List.mem_map] at hT
      obtain ⟨r, hr, rfl⟩ := hT
      obtain ⟨_, _, h3, h4, _⟩ := hy r (List.mem_range.1 hr)
      exact ⟨by simpa using h4, h3⟩
    · rw [List.mem_map] at hT
      obtain ⟨r, hr, rfl⟩ := hT
      obtain ⟨_, _, _, _, _, h5⟩ := hy r (List.mem_range.1 hr)
      rw [List.mem_map] at hx
      obtain ⟨i, hi, rfl⟩ := hx
      exact h5 i (List.mem_range.1 hi)
end
end Go.Proofs.Ytpplnapfpoloiaa
