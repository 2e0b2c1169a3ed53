/-
  Layer 17: slices.Grow and slices.Concat at lines.
-/
import Derived.Test.YtcfghkphkmoikaaGreatPxL
import Derived.Test.YtcfghkphkmoikaaGreatMqH
import Derived.Test.YtcfghkphkmoikaaGreatKitLn
namespace Go.Proofs.YtcfghkphkmoikaaGreat
set_option maxRecDepth 100000
open Go.RowKit
set_option linter.unusedVariables false
set_option linter.unusedSimpArgs false
section
variable {P : Program} (w : World)
set_option maxRecDepth 100000 in
/-- append(nil, make([]T, m)...): a new row with room for m things at least. -/
theorem run_append_room (t k ty e : TypeId) (i : TypeInfo) (z : Value) (bytes size : Nat) (ht : P.underlying t = some (.slice e)) (hk : P.underlying k = some (.int .i64)) (hi : P.info? e = some i) (hz : i.zero = some z)
    (hsize : i.size = size) (hby : i.bytes = bytes) (hzs : z.cells.size = size) (h0 : 0 < size) (m : Nat) (hm0 : 0 < m) (hbytes : m * bytes ≤ 140737488355328) (h63 : m ≤ maxLen) :
    ∃ cap' cur, (Builtin.append_ #[t, k] ty #[.slice none 0 0, .int .i64 m]).run P w = .ok (.slice (some ⟨w.heap.size, 0, none⟩) m cap') (w.drew.alloc (.cells cur e)) ∧ m ≤ cap' ∧ cap' ≤ maxLen ∧ cur.size = cap' * size := by
  have hm63 : (m : Int) ≤ 9223372036854775807 := by simp only [maxLen] at h63; omega
  have hwr : IntKind.i64.wrap (m : Int) = m := IntWalk.i64_in _ (by omega)
  have hneg : ¬ (m : Int) < 0 := by omega
  have hfits : ¬ ((m : Int) * (bytes : Int) > 281474976710656) := by
    have hq : ∀ q : Nat, q ≤ 140737488355328 → (q : Int) ≤ 140737488355328 := fun q h => by omega
    have := hq _ hbytes
    rw [Int.natCast_mul] at this
    omega
  subst hby
  have hge := grownCap_ge w m 0 e
  have hcm' : grownCap w m 0 e ≤ maxLen := grownCap_le_maxLen w m 0 e h63
  have hfit := growslice_fits (old := 0) (need := m) (by omega) hbytes
  have h63' : ¬ (9223372036854775807 < (m : Int)) := by omega
  have h48' : ¬ (281474976710656 < Builtin.nextslicecap m 0 * i.bytes) := by omega
  have hms : m * size ≠ 0 := Nat.ne_of_gt (Nat.mul_pos hm0 h0)
  have hnm : ¬ m ≤ 0 := by omega
  have hm1 : m ≠ 0 := by omega
  have hs1 : size ≠ 0 := by omega
  refine ⟨grownCap w m 0 e, Builtin.zeroCells z.cells m ++ Builtin.zeroCells z.cells (grownCap w m 0 e - m), ?_, hge, hcm', ?_⟩
  · simp [Builtin.append_, run_underlying ht, run_underlying hk, sizeOf, typeInfo, zeroValue, hi, hz, hsize, h63', h48', asInt, asIntOf, hwr, hneg, hfits, Question.forced, hm1, hs1, hnm, newRow, grownCap, Builtin.firstCells, hms]
  · rw [Array.size_append]
    simp only [Builtin.zeroCells, Array.size_map, Array.size_range, hzs]
    rw [← Nat.add_mul]
    congr 1
    omega
theorem wpList_append_room {w : World} {ops : Array Oper} {rest : List Oper} {o : Oper} {a : Act} {Q : Exit → Act → World → Prop} (hgd : o.guard = none) (s x : Operand) (t k : TypeId)
    (ho : o.op = .call { callee := .builtin .append, args := #[s, x], argTypes := #[t, k] })
    (e : TypeId) (i : TypeInfo) (z : Value) (bytes size : Nat) (ht : P.underlying t = some (.slice e)) (hk : P.underlying k = some (.int .i64)) (hi : P.info? e = some i) (hz : i.zero = some z)
    (hsize : i.size = size) (hby : i.bytes = bytes) (hzs : z.cells.size = size) (h0 : 0 < size) (m : Nat) (hm0 : 0 < m) (hs : a.eval s = .slice none 0 0) (hx : a.eval x = .int .i64 m) (hbytes : m * bytes ≤ 140737488355328) (h63 : m ≤ maxLen)
    (h : ∀ cap' cur, m ≤ cap' → cap' ≤ maxLen → cur.size = cap' * size → wpList P ops Q rest (a.put o.dst (.slice (some ⟨w.heap.size, 0, none⟩) m cap')) (w.drew.alloc (.cells cur e))) :
    wpList P ops Q (o :: rest) a w := by
  refine wpList_plain hgd fun K hK => ?_
  obtain ⟨cap', cur, hr, h2, h3, h4⟩ := run_append_room (P := P) w t k o.type e i z bytes size ht hk hi hz hsize hby hzs h0 m hm0 hbytes h63
  unfold Oper.wp execOp
  simp only [ho, resolve, invoke, builtin, Sem.run_bind, Sem.run_pure, Result.andThen_ok, List.map_toArray, List.map_cons, List.map_nil, hs, hx, hr]
  exact hK _ _ (h cap' cur h2 h3 h4)
end
theorem wpList_append_gn {α : Type} {k : Nat} {enc : α → List Value} {P : Program} {w : World} {ops : Array Oper} {rest : List Oper} {o : Oper} {a : Act} {Q : Exit → Act → World → Prop} (hgd : o.guard = none) (s x : Operand) (t e : TypeId)
    (ho : o.op = .call { callee := .builtin .append, args := #[s, x], argTypes := #[t, t] }) (hk0 : 0 < k) (hk : ∀ a, (enc a).length = k) (h1 : ∀ a, ∀ u ∈ enc a, u.oneCell' = true) (bytes : Nat)
    (ht : P.underlying t = some (.slice e)) (hinfo : ∃ i z, P.info? e = some i ∧ i.zero = some z ∧ i.size = k ∧ i.bytes = bytes ∧ z.cells.size = k)
    (base : Nat) (v : Value) (L : List α) (hs : a.eval s = v) (hown : OwnG e k enc w base v L) (B : Nat) (A : Option Addr) (n c : Nat) (M : List α) (hn : n = M.length) (hx : a.eval x = .slice A n c) (hr : RdG k enc w B A M)
    (hbytes : (L.length + n) * bytes ≤ 140737488355328) (h63 : L.length + n ≤ maxLen) (hbase : base ≤ w.heap.size)
    (h : ∀ v' w', OwnG e k enc w' base v' (L ++ M) → w.grownBy w' v.ownBlock → (∀ q, v.ownBlock = some q → base ≤ q ∧ q < w.heap.size) → wpList P ops Q rest (a.put o.dst v') w') :
    wpList P ops Q (o :: rest) a w := by
  subst hn
  exact wpList_append_g hgd s x t e ho hk0 hk h1 bytes ht hinfo base v L hs hown B A c M hx hr hbytes h63 hbase h
theorem own_room {α : Type} (t : TypeId) (k : Nat) (enc : α → List Value) (w : World) (base g cap : Nat) (cur : Array Value) (hb : base ≤ g) (hg : g = w.heap.size) (hc : cap ≤ maxLen) (hs : cur.size = cap * k) : OwnG t k enc (w.alloc (.cells cur t)) base (.slice (some ⟨g, 0, none⟩) 0 cap) [] := by
  subst hg
  refine ⟨by simp [cellsG], .inr ⟨w.heap.size, cap, cur, rfl, hb, heap_alloc_new w _, Nat.zero_le _, hc, hs, by simp [cellsG]⟩⟩
set_option maxRecDepth 100000 in
set_option maxHeartbeats 4000000 in
theorem sn_grow (n : Nat) (hn : n ≤ 100000000) (w : World) :
    Calls Tryz.prog 60 #[.slice none 0 0, .int .i64 (n : Int)] w fun e w' => ∃ v, e = .returned v ∧ OwnG 25 4 lnE w' w.heap.size v [] ∧ Since w w' := by
  have e1 : IntKind.i64.wrap (n : Int) = (n : Int) := IntWalk.i64_in _ (by omega)
  have e2 : ¬ ((n : Int) < 0) := by omega
  obtain ⟨i0, z0, hi0, hz0, hz1, hz2, hz3⟩ := infoLnE
  rcases Nat.eq_zero_or_pos n with h0 | h0
  · subst h0
    go_enter Tryz.func60, Tryz.ntmps60
    go_wp2
    go_ret
    exact ⟨_, rfl, OwnG.nil _ _ _ _ _, by (repeat (first | with_reducible (exact Since.refl _) | with_reducible assumption | with_reducible (refine Since.drew ?_) | with_reducible (refine Since.drewN ?_ _) | with_reducible (refine Since.alloc ?_ _) | (with_reducible (refine Since.setCell ?_ ?_ _); rotate_left; focus (first | (simp; done) | (simp; omega) | omega)) | (with_reducible (refine Since.trans ?_ (by with_reducible assumption)))))⟩
  · have e3 : (0 : Int) < (n : Int) := by omega
    go_enter Tryz.func60, Tryz.ntmps60
    go_wp2_with (at_builtin; refine wpList_append_room (by rfl) _ _ 26 3 (by rfl) 25 i0 z0 32 4 Tryz.underlying26 Tryz.underlying3 hi0 hz0 hz1 hz2 hz3 (by omega) n h0 (by rfl) (by rfl) (by omega) (by simp only [maxLen]; omega) ?_; intro cap' cur hc1 hc2 hc3; have hO := own_room 25 4 lnE w.drew w.heap.size w.heap.size cap' cur (Nat.le_refl _) rfl hc2 hc3)
    go_ret
    exact ⟨_, rfl, hO, by (repeat (first | with_reducible (exact Since.refl _) | with_reducible assumption | with_reducible (refine Since.drew ?_) | with_reducible (refine Since.drewN ?_ _) | with_reducible (refine Since.alloc ?_ _) | (with_reducible (refine Since.setCell ?_ ?_ _); rotate_left; focus (first | (simp; done) | (simp; omega) | omega)) | (with_reducible (refine Since.trans ?_ (by with_reducible assumption)))))⟩
set_option maxRecDepth 100000 in
set_option maxHeartbeats 8000000 in
theorem sn_concat (A B : Option Addr) (n m c d b : Nat) (L M : List Ln) (w : World) (hn : n = L.length) (hm : m = M.length) (hL : RdG 4 lnE w w.heap.size A L) (hM : RdG 4 lnE w w.heap.size B M) (hb : b < w.heap.size) (h0 : w.cell? ⟨b, 0, none⟩ = some (.slice A n c)) (h1 : w.cell? ⟨b, 1, none⟩ = some (.slice B m d)) (hnm : n + m ≤ 100000000) :
    Calls Tryz.prog 35 #[.slice (some ⟨b, 0, none⟩) 2 2] w fun e w' => ∃ v, e = .returned v ∧ OwnG 25 4 lnE w' w.heap.size v (L ++ M) ∧ Since w w' := by
  have e1 : IntKind.i64.wrap (n : Int) = (n : Int) := IntWalk.i64_in _ (by omega)
  have e2 : IntKind.i64.wrap ((n : Int) + (m : Int)) = (n : Int) + (m : Int) := IntWalk.i64_in _ (by omega)
  have e3 : ¬ ((n : Int) < 0) := by omega
  have e4 : ¬ ((n : Int) + (m : Int) < 0) := by omega
  have hG : ∀ w, Calls Tryz.prog 60 #[.slice none 0 0, .int .i64 ((n : Int) + (m : Int))] w fun e w' => ∃ v, e = .returned v ∧ OwnG 25 4 lnE w' w.heap.size v [] ∧ Since w w' := fun w => by
    have h := sn_grow (n + m) hnm w
    rw [show ((n + m : Nat) : Int) = (n : Int) + (m : Int) by omega] at h
    exact h
  have HG := Lib.hid hG
  clear hG
  have HN := Lib.hid hn; have HM := Lib.hid hm; have HL := Lib.hid hL; have HB := Lib.hid hM; have h0w := h0; have h1w := h1
  clear hn hm hL hM
  go_enter Tryz.func35, Tryz.ntmps35
  go_wp2
  refine wp_loop_rounds 3 ?_
  rw [rounds_succ]
  go_wp2_with fail
  rw [rounds_succ]
  go_wp2_with fail
  rw [rounds_succ]
  go_wp2_with (go_at_call 60; (with_reducible refine (HG.out _).mono ?_); rintro e w1 ⟨v1, rfl, hO1, hS1⟩; have h0 := (hS1.1 _ _ hb).trans h0; have h1 := (hS1.1 _ _ hb).trans h1)
  have hz1 := hS1.below.size
  have HO1 := Lib.hid hO1; have HS1 := Lib.hid hS1
  clear hO1 hS1
  refine wp_loop_rounds 3 ?_
  rw [rounds_succ]
  go_wp2_with (at_builtin; refine wpList_append_gn rfl _ _ 26 25 rfl (by omega) lnE_len lnE_one 32 Tryz.underlying26 infoLnE w.heap.size _ [] rfl HO1.out w1.heap.size _ n _ L HN.out rfl (HL.out.on HS1.out) (by simp only [List.length_nil]; omega) (by simp only [List.length_nil, maxLen]; omega) hz1 ?_; intro v2 w2 hO2 hg2 hb2; have hS2 := since_grown HS1.out hg2 (fun k e => (hb2 k e).1); have h0' := (hS2.1 _ 0 hb).trans h0w; have h1' := (hS2.1 _ 1 hb).trans h1w; have hz2 := hS2.below.size; rw [List.nil_append] at hO2; have HO2 := Lib.hid hO2; have HS2 := Lib.hid hS2; clear hO2 hg2 hb2 hS2 hz1)
  rw [rounds_succ]
  clear h0 h1
  go_wp2_with (at_builtin; refine wpList_append_gn rfl _ _ 26 25 rfl (by omega) lnE_len lnE_one 32 Tryz.underlying26 infoLnE w.heap.size _ L rfl HO2.out w2.heap.size _ m _ M HM.out rfl (HB.out.on HS2.out) (by rw [← HN.out]; omega) (by rw [← HN.out]; simp only [maxLen]; omega) hz2 ?_; intro v3 w3 hO3 hg3 hb3; have hS3 := since_grown HS2.out hg3 (fun k e => (hb3 k e).1); have HO3 := Lib.hid hO3; have HS3 := Lib.hid hS3; clear hO3 hg3 hb3 hS3)
  rw [rounds_succ]
  go_wp2_with fail
  go_ret
  exact ⟨_, rfl, HO3.out, HS3.out⟩
end Go.Proofs.YtcfghkphkmoikaaGreat
