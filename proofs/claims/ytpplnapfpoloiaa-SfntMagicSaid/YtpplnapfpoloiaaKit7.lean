/-
  append(s, make([]T, n)...): the compiler lets it make no slice: noughts are laid behind a row of the call's own.
-/
import Derived.Test.YtpplnapfpoloiaaKit2
namespace Go.Proofs.Ytpplnapfpoloiaa
open Go.RowKit
set_option linter.unusedVariables false
set_option linter.unusedSimpArgs false
section
variable {P : Program} (w : World)
theorem zeros_list (z : Value) (hz : z.cells = #[z]) (m : Nat) : (Builtin.zeroCells z.cells m).toList = List.replicate m z := by
  rw [hz]
  apply List.ext_getElem?
  intro j
  by_cases hj : j < m
  · simp [Builtin.zeroCells, List.getElem?_replicate, hj, Nat.mod_one]
  · simp [Builtin.zeroCells, List.getElem?_replicate, hj]
set_option maxRecDepth 100000 in
theorem run_append_zeros (base : Nat) (t k ty e : TypeId) (i : TypeInfo) (z : Value) (bytes : Nat) (ht : P.underlying t = some (.slice e)) (hk : P.underlying k = some (.int .i64)) (hi : P.info? e = some i) (hz : i.zero = some z)
    (hsize : i.size = 1) (hby : i.bytes = bytes) (hzs : z.cells = #[z]) (h1 : z.oneCell' = true) (g cap n m : Nat) (xs : List Value) (hown : w.ownsRow base e 1 (.slice (some ⟨g, 0, none⟩) n cap) n xs)
    (hbytes : (n + m) * bytes ≤ 140737488355328) (h63 : n + m ≤ maxLen) (hbase : base ≤ w.heap.size) :
    ∃ g' cap' w', (Builtin.append_ #[t, k] ty #[.slice (some ⟨g, 0, none⟩) n cap, .int .i64 m]).run P w = .ok (.slice (some ⟨g', 0, none⟩) (n + m) cap') w' ∧ w'.ownsRow base e 1 (.slice (some ⟨g', 0, none⟩) (n + m) cap') (n + m) (xs ++ List.replicate m z) ∧ w.grownBy w' (some g) ∧ (g' = g ∨ g' = w.heap.size) := by
  have hmb : m * bytes ≤ 140737488355328 := Nat.le_trans (Nat.mul_le_mul_right _ (by omega)) hbytes
  have hm63 : (m : Int) ≤ 9223372036854775807 := by simp only [maxLen] at h63; omega
  have hn63 : ((n + m : Nat) : Int) ≤ 9223372036854775807 := by simp only [maxLen] at h63; omega
  have hwr : IntKind.i64.wrap (m : Int) = m := IntWalk.i64_in _ (by omega)
  have hneg : ¬ (m : Int) < 0 := by omega
  have hfits : ¬ ((m : Int) * (bytes : Int) > 281474976710656) := by
    have hq : ∀ q : Nat, q ≤ 140737488355328 → (q : Int) ≤ 140737488355328 := fun q h => by omega
    have := hq _ hmb
    rw [Int.natCast_mul] at this
    omega
  have hlx := hown.1
  rw [Nat.mul_one] at hlx
  rcases hown.2 with ⟨e1, _⟩ | ⟨g', cap', cur, e1, hbg, hg, hnc, hcm, hcs, htake⟩
  · cases e1
  injection e1 with e1 _ e2
  injection e1 with e1
  injection e1 with e1
  subst e1; subst e2
  subst hby
  by_cases hroom : n + m ≤ cap
  · refine ⟨g, cap, w.setRow g (cur.toList.take n ++ List.replicate m z ++ cur.toList.drop (n + m)).toArray, ?_, ⟨?_, .inr ⟨g, cap, _, rfl, hbg, setRow_heap w g cur _ e _ hg, hroom, hcm, ?_, ?_⟩⟩, ⟨rfl, rfl, rfl, by simp, fun k hk' hne => setRow_other w g k _ (fun e => hne (by simp [e]))⟩, .inl rfl⟩
    · by_cases hm0 : m = 0
      · subst hm0
        have hst := run_storeCells_at P g n e [] 0 cur w hg (by simp; omega) (by simp)
        simp only [Nat.add_zero, List.length_nil] at hst hroom
        have hw0 : IntKind.i64.wrap 0 = 0 := rfl
        simp [Builtin.append_, run_underlying ht, run_underlying hk, sizeOf, typeInfo, hi, hsize, hroom, Addr.add_lit, hst, asInt, asIntOf, hw0]
      · have hst := run_storeCells_at P g n e (List.replicate m z) 0 cur w hg (by simp; omega) (fun u hu => by rw [(List.mem_replicate.1 hu).2]; exact h1)
        simp only [Nat.add_zero, List.length_replicate] at hst
        have hz2 := zeros_list z hzs m
        simp [Builtin.append_, run_underlying ht, run_underlying hk, sizeOf, typeInfo, hi, hz, hsize, hroom, Addr.add_lit, asInt, asIntOf, hwr, hneg, hfits, zeroValue, hm0, hz2, hst]
    · simp [hlx]
    · simp; omega
    · rw [Nat.mul_one] at htake
      rw [Nat.mul_one, htake, List.take_append_of_le_length (by simp [hlx]), List.take_of_length_le (by simp [hlx])]
  · have hg1 : cap < n + m := by omega
    have hge := grownCap_ge w (n + m) cap e
    have hcm' : grownCap w (n + m) cap e ≤ maxLen := grownCap_le_maxLen w (n + m) cap e h63
    have hfit := growslice_fits (old := cap) (by omega) hbytes
    have hm0 : m ≠ 0 := by omega
    refine ⟨w.heap.size, grownCap w (n + m) cap e, w.drew.alloc (.cells (xs.toArray ++ (List.replicate m z).toArray ++ Builtin.zeroCells z.cells (grownCap w (n + m) cap e - (n + m))) e), ?_, ⟨?_, .inr ⟨w.heap.size, _, _, rfl, hbase, heap_alloc_new w.drew _, hge, hcm', ?_, ?_⟩⟩, ⟨rfl, rfl, rfl, by simp, fun k hk' _ => by first | exact heap_alloc_old w.drew _ hk' | exact Go.heap_alloc_old w.drew _ k hk'⟩, .inr rfl⟩
    · have holds : ∀ j u, xs[j]? = some u → w.cell? ((⟨g, 0, none⟩ : Addr).add j) = some u := hown.cells (g := g) rfl
      have hnr : ¬ (n + m ≤ cap) := by omega
      have h63' : ¬ (9223372036854775807 < ((n : Int) + (m : Int))) := by omega
      have h48' : ¬ (281474976710656 < Builtin.nextslicecap (n + m) cap * i.bytes) := by omega
      have hfo := run_firstCells_some (P := P) w.drew 1 n ⟨g, 0, none⟩ n cap xs (by rw [hlx, Nat.mul_one]) (by simpa using holds)
      have hz2 : Builtin.zeroCells z.cells m = (List.replicate m z).toArray := by rw [← zeros_list z hzs m]
      simp [Builtin.append_, run_underlying ht, run_underlying hk, sizeOf, typeInfo, zeroValue, hi, hz, hsize, hnr, h63', h48', asInt, asIntOf, hwr, hneg, hfits, Question.forced, hfo, hm0, hz2, newRow, grownCap]
      try (apply Array.ext'; simp [List.append_assoc])
    · simp [hlx]
    · simp [size_zeroCells, hzs, hlx]; omega
    · rw [Nat.mul_one]
      simp only [Array.toList_append, List.append_assoc]
      rw [← List.append_assoc]
      have hl : (xs ++ List.replicate m z).length = n + m := by simp [hlx]
      rw [← hl]
      exact List.take_left
theorem wpList_append_zeros {ops : Array Oper} {rest : List Oper} {o : Oper} {a : Act} {Q : Exit → Act → World → Prop} (hgd : o.guard = none) (s x : Operand) (t k : TypeId)
    (ho : o.op = .call { callee := .builtin .append, args := #[s, x], argTypes := #[t, k] })
    (base : Nat) (e : TypeId) (i : TypeInfo) (q : IntKind) (bytes : Nat) (ht : P.underlying t = some (.slice e)) (hk : P.underlying k = some (.int .i64)) (hi : P.info? e = some i) (hz : i.zero = some (.int q 0))
    (hsize : i.size = 1) (hby : i.bytes = bytes) (g cap n m : Nat) (V : Nat → Value) (hs : a.eval s = .slice (some ⟨g, 0, none⟩) n cap) (hx : a.eval x = .int .i64 m) (hown : w.ownsRow base e 1 (.slice (some ⟨g, 0, none⟩) n cap) n (tab n V))
    (hbytes : (n + m) * bytes ≤ 140737488355328) (h63 : n + m ≤ maxLen) (hbase : base ≤ w.heap.size)
    (h : ∀ g' cap' w', w'.ownsRow base e 1 (.slice (some ⟨g', 0, none⟩) (n + m) cap') (n + m) (tab n V ++ tab m (IntRow q (fun _ => 0))) → w.grownBy w' (some g) → (g' = g ∨ g' = w.heap.size) → wpList P ops Q rest (a.put o.dst (.slice (some ⟨g', 0, none⟩) (n + m) cap')) w') :
    wpList P ops Q (o :: rest) a w := by
  refine wpList_plain hgd fun K hK => ?_
  obtain ⟨g', cap', w', hr, h2, h3, h4⟩ := run_append_zeros (P := P) w base t k o.type e i (.int q 0) bytes ht hk hi hz hsize hby rfl rfl g cap n m _ hown hbytes h63 hbase
  unfold Oper.wp execOp
  simp only [ho, resolve, invoke, builtin, Sem.run_bind, Sem.run_pure, Result.andThen_ok, List.map_toArray, List.map_cons, List.map_nil, hs, hx, hr]
  rw [tab_rep] at h2
  exact hK _ _ (h g' cap' w' h2 h3 h4)
end
end Go.Proofs.Ytpplnapfpoloiaa
