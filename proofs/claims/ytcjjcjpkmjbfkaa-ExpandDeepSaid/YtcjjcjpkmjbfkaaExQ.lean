/-
  Layer 12: rows of rows of bytes that a call has made; 'great'.
-/
import Derived.Test.YtcjjcjpkmjbfkaaExP
namespace Go.Proofs.Ytcjjcjpkmjbfkaa
open Go.RowKit Go.ChangeShapes Go.WideShapes Go.Deep
set_option linter.unusedVariables false
set_option linter.unusedSimpArgs false

theorem infoBs0 : (Try.prog.info? 25).map (fun i => (i.zero, i.size, i.bytes)) = some (some (.slice none 0 0), 1, 24) := by kernel_rfl
theorem infoBs : ∃ i z, Try.prog.info? 25 = some i ∧ i.zero = some z ∧ i.size = 1 ∧ i.bytes = 24 ∧ z.cells.size = 1 := by
  obtain ⟨i0, hi, hz0, hz1, hz2⟩ := info_parts infoBs0
  exact ⟨i0, _, hi, hz0, hz1, hz2, rfl⟩
def OwnBL (w : World) (base : Nat) (v : Value) (GG : List (List Int)) : Prop :=
  ∃ hs : List Hd, hs.length = GG.length ∧ OwnG 25 1 hdL w base v hs ∧ ∀ (j : Nat) h L, hs[j]? = some h → GG[j]? = some L → OwnB w base (.slice h.A h.n h.c) L
section
variable {w w' : World} {base : Nat} {v : Value} {GG : List (List Int)}
theorem OwnBL.nil (w : World) (base : Nat) : OwnBL w base (.slice none 0 0) [] := ⟨[], rfl, OwnG.nil _ _ _ _ _, fun j h L h1 h2 => by simp at h1⟩
theorem OwnBL.since (h : OwnBL w base v GG) (k : Since w w') : OwnBL w' base v GG := by
  obtain ⟨hs, hl, ho, hK⟩ := h
  exact ⟨hs, hl, ho.since k, fun j x L h1 h2 => (hK j x L h1 h2).since k⟩
theorem OwnBL.rd (h : OwnBL w base v GG) : ∃ A c, v = .slice A GG.length c ∧ GG.length ≤ c ∧ RdBL w w.heap.size A GG := by
  obtain ⟨hs, hl, ho, hK⟩ := h
  obtain ⟨A, c, rfl, hc, hr⟩ := ho.rd (by omega) hdL_len
  rw [hl] at hc ⊢
  refine ⟨A, c, rfl, hc, hs, hl, hr, fun j x L h1 h2 => ?_⟩
  obtain ⟨A', c', e, hc', hr'⟩ := (hK j x L h1 h2).rd (by omega) byL_len
  injection e with e1 e2 e3
  exact ⟨e2, by omega, by rw [e1]; exact hr'⟩
/-- append of a row of bytes to such; where the outer row lies then. -/
theorem wpList_append_bl {ops : Array Oper} {rest : List Oper} {o : Oper} {a : Act} {Q : Exit → Act → World → Prop} (hgd : o.guard = none) (s x : Operand)
    (ho : o.op = .call { callee := .builtin .append, args := #[s, x], argTypes := #[22, 22] })
    (hs : a.eval s = v) (hown : OwnBL w base v GG) (b c : Nat) (A' : Option Addr) (n' c' : Nat) (L : List Int) (hx : a.eval x = .slice (some ⟨b, 0, none⟩) 1 c) (ty : TypeId) (hb : b = w.heap.size) (hrow : OwnB w base (.slice A' n' c') L) (hL : GG.length ≤ 1000000) (hbase : base ≤ w.heap.size)
    (h : ∀ v' w', OwnBL w' base v' (GG ++ [L]) → (w.alloc (.cells #[.slice A' n' c'] ty)).grownBy w' v.ownBlock → (∀ q, v.ownBlock = some q → base ≤ q ∧ q < w.heap.size) → (v'.ownBlock = v.ownBlock ∨ v'.ownBlock = some (w.heap.size + 1)) → wpList Try.prog ops Q rest (a.put o.dst v') w') :
    wpList Try.prog ops Q (o :: rest) a (w.alloc (.cells #[.slice A' n' c'] ty)) := by
  obtain ⟨hh, hl, ho', hK⟩ := hown
  refine wpList_append_w hgd s x 22 22 25 25 ho (by omega) hdL_len hdL_one 24 Try.underlying22 Try.underlying22 infoBs base v hh hs (ho'.alloc _) _ _ c [⟨A', n', c'⟩] hx (hd_one w b hb ty ⟨A', n', c'⟩) (by simp only [List.length_cons, List.length_nil]; omega) (by simp only [List.length_cons, List.length_nil, maxLen]; omega) (by simp; omega) (fun v' w' h9 hg hq hv => h v' w' ?_ hg (fun q e => ho'.lt e) (by simpa using hv))
  have hne : 25 ≠ 5 := by decide
  have ho2 := ho'.alloc (.cells #[.slice A' n' c'] ty)
  refine ⟨hh ++ [⟨A', n', c'⟩], by simp [hl], h9, fun j x M h1 h2 => ?_⟩
  by_cases hj : j < hh.length
  · rw [List.getElem?_append_left hj] at h1
    rw [List.getElem?_append_left (by omega)] at h2
    have hk := (hK j x M h1 h2).alloc (.cells #[.slice A' n' c'] ty)
    exact OwnG.grown hk hg (fun q hq e => own_apart ho2 hk hne e hq)
  · rw [List.getElem?_append_right (by omega)] at h1
    rw [List.getElem?_append_right (by omega)] at h2
    have e : j - hh.length = 0 := by
      rcases Nat.eq_zero_or_pos (j - hh.length) with h | h
      · exact h
      · rw [List.getElem?_eq_none (by simp; omega)] at h1; cases h1
    rw [e] at h1
    rw [← hl, e] at h2
    simp only [List.getElem?_cons_zero, Option.some.injEq] at h1 h2
    subst h1 h2
    have hr2 := hrow.alloc (.cells #[.slice A' n' c'] ty)
    exact OwnG.grown hr2 hg (fun q hq e => own_apart ho2 hr2 hne e hq)
end
/-- Rows of bytes of a value that came in. -/
theorem rdbl_of {w : World} {A : Option Addr} {n : Nat} {AA : Nat → Option Addr} {LL CC : Nat → Nat} {Z : Nat → Nat → Int} (hr : Rd w w.heap.size A n (fun j => .slice (AA j) (LL j) (CC j))) (hall : ∀ j, j < n → LL j ≤ CC j ∧ CC j ≤ maxLen ∧ Rd w w.heap.size (AA j) (LL j) (IntRow .u8 (Z j)) ∧ ∀ i, i < LL j → (Lit.int .u8 (Z j i)).wf = true) :
    RdBL w w.heap.size A ((List.range n).map (fun j => (List.range (LL j)).map (Z j))) := by
  refine ⟨(List.range n).map (fun j => ⟨AA j, LL j, CC j⟩), by simp, fun hn => ?_, fun j h L h1 h2 => ?_⟩
  · obtain ⟨b, o, e, hb, hc⟩ := hr (by simpa using hn)
    refine ⟨b, o, e, hb, fun j s hj i hi => ?_⟩
    have hjn : j < n := by
      rcases Nat.lt_or_ge j n with h | h
      · exact h
      · rw [List.getElem?_eq_none (by simpa using h)] at hj; cases hj
    obtain rfl : i = 0 := by omega
    rw [List.getElem?_map, List.getElem?_range hjn] at hj
    simp only [Option.map_some, Option.some.injEq] at hj
    subst hj
    rw [Nat.mul_one, Nat.add_zero]
    exact hc j hjn
  · have hjn : j < n := by
      rcases Nat.lt_or_ge j n with h | h
      · exact h
      · rw [List.getElem?_eq_none (by simpa using h)] at h1; cases h1
    rw [List.getElem?_map, List.getElem?_range hjn] at h1 h2
    simp only [Option.map_some, Option.some.injEq] at h1 h2
    subst h1 h2
    obtain ⟨a1, _, a3, _⟩ := hall j hjn
    exact ⟨by simp, a1, rdb_map a3⟩
theorem rows_in {n : Nat} {LL : Nat → Nat} {Z : Nat → Nat → Int} {b : List Int} (h : b ∈ (List.range n).map (fun j => (List.range (LL j)).map (Z j))) : ∃ j, j < n ∧ b = (List.range (LL j)).map (Z j) := by
  obtain ⟨j, hj, rfl⟩ := List.mem_map.1 h
  exact ⟨j, by simpa using hj, rfl⟩
theorem rows_bytes {w : World} {n : Nat} {AA : Nat → Option Addr} {LL CC : Nat → Nat} {Z : Nat → Nat → Int} (hall : ∀ j, j < n → LL j ≤ CC j ∧ CC j ≤ maxLen ∧ Rd w w.heap.size (AA j) (LL j) (IntRow .u8 (Z j)) ∧ ∀ i, i < LL j → (Lit.int .u8 (Z j i)).wf = true) : ∀ b, b ∈ (List.range n).map (fun j => (List.range (LL j)).map (Z j)) → Bytes b := fun b hb => by
  obtain ⟨j, hj, rfl⟩ := rows_in hb
  obtain ⟨_, _, _, a4⟩ := hall j hj
  exact bytes_map (fun i hi => by simpa [Lit.wf, IntKind.min, IntKind.max, IntKind.signed, IntKind.bits] using a4 i hi)
theorem rows_len {w : World} {n : Nat} {AA : Nat → Option Addr} {LL CC : Nat → Nat} {Z : Nat → Nat → Int} (hall : ∀ j, j < n → LL j ≤ CC j ∧ CC j ≤ maxLen ∧ Rd w w.heap.size (AA j) (LL j) (IntRow .u8 (Z j)) ∧ ∀ i, i < LL j → (Lit.int .u8 (Z j i)).wf = true) : ∀ b, b ∈ (List.range n).map (fun j => (List.range (LL j)).map (Z j)) → b.length ≤ 9223372036854775807 := fun b hb => by
  obtain ⟨j, hj, rfl⟩ := rows_in hb
  obtain ⟨a1, a2, _, _⟩ := hall j hj
  simp only [maxLen] at a2
  simp; omega
def gr12 (G : List (List Int)) : Bool := decide (60 < G.length) || G.any (fun b => decide (3000 < b.length))
theorem gr12_no {G : List (List Int)} (h : gr12 G = false) : G.length ≤ 60 ∧ ∀ b, b ∈ G → b.length ≤ 3000 := by
  unfold gr12 at h
  rw [Bool.or_eq_false_iff] at h
  refine ⟨by have := of_decide_eq_false h.1; omega, fun b hb => ?_⟩
  have h2 := h.2
  rw [List.any_eq_false] at h2
  have := h2 b hb
  simp at this
  omega
set_option maxRecDepth 100000 in
set_option maxHeartbeats 8000000 in
theorem great12 (A : Option Addr) (N c : Nat) (G : List (List Int)) (w : World) (h : RdBL w w.heap.size A G) (hN : N = G.length) (hN63 : N ≤ 9223372036854775807) (hl : ∀ b, b ∈ G → b.length ≤ 9223372036854775807) :
    Calls Try.prog 8 #[.slice A N c] w fun e w' => e = .returned (.bool (gr12 G)) ∧ Since w w' := by
  have hNI : (N : Int) ≤ 9223372036854775807 := by omega
  obtain ⟨R, hR⟩ : ∃ R, R = gr12 G := ⟨_, rfl⟩
  rw [← hR]
  unfold gr12 at hR
  rw [← hN] at hR
  have HN := Lib.hid hN
  have HL := Lib.hid hl
  clear hl hN
  by_cases h60 : 60 < N
  · rw [decide_eq_true h60, Bool.true_or] at hR
    subst hR
    have hI : (60 : Int) < (N : Int) := by omega
    go_enter Try.func8, Try.ntmps8
    go_wp2_with fail
    go_ret
    exact ⟨by first | rfl | simp, by (repeat (first | with_reducible (exact Since.refl _) | with_reducible assumption | with_reducible (refine Since.drew ?_) | with_reducible (refine Since.drewN ?_ _) | with_reducible (refine Since.alloc ?_ _) | (with_reducible (refine Since.setCell ?_ ?_ _); rotate_left; focus (first | (simp; done) | (simp; omega) | omega)) | (with_reducible (refine Since.trans ?_ (by with_reducible assumption)))))⟩
  · rw [decide_eq_false h60, Bool.false_or] at hR
    have HR := Lib.hid hR
    clear hR
    have hI : ¬ (60 : Int) < (N : Int) := by omega
    go_enter Try.func8, Try.ntmps8
    go_wp2_with fail
    go_loopw [10] (fun y wr => ∃ (j : Nat), j ≤ N ∧ y = .int .i64 (j : Int) ∧ Since w wr ∧ Hid ((G.take j).any (fun b => decide (3000 < b.length)) = false)) (fun y _ => N - (intOf y).toNat)
    case atStart => exact ⟨0, by omega, rfl, Since.refl _, Lib.hid (by simp)⟩
    case round =>
      obtain ⟨j, hj, rfl, hS, HA⟩ := hrel
      by_cases hjn : j < N
      · have hjI : (j : Int) < (N : Int) := by omega
        have hjG : j < G.length := by rw [← HN.out]; exact hjn
        have hGj : G[j]? = some G[j] := List.getElem?_eq_getElem hjG
        have hbl := HL.out _ (List.getElem_mem hjG)
        have hMem := Lib.hid (List.getElem_mem hjG)
        have hsn := Lib.hid (show G.take (j + 1) = G.take j ++ [G[j]] from List.take_succ_eq_append_getElem hjG)
        obtain ⟨b, o, A', c', rfl, hb, hcell, hlc, _⟩ := h.row hGj
        have c1 := (hS.1 _ _ hb).trans hcell
        have hbw := hS.2.2.1 _ hb
        generalize G[j] = L at *
        obtain ⟨n', hn'⟩ : ∃ n', n' = L.length := ⟨_, rfl⟩
        rw [← hn'] at c1 hlc hbl
        have HN' := Lib.hid hn'
        have hbI : (n' : Int) ≤ 9223372036854775807 := by omega
        clear hn' hcell hGj hjG
        by_cases h3 : 3000 < n'
        · have hI3 : (3000 : Int) < (n' : Int) := by omega
          have HRT := Lib.hid (show R = true by
            rw [HR.out, List.any_eq_true]
            exact ⟨L, hMem.out, by simp; have := HN'.out; omega⟩)
          go_wp2_with fail
          go_ret
          exact ⟨by rw [HRT.out]; first | rfl | simp, hS⟩
        · have hI3 : ¬ (3000 : Int) < (n' : Int) := by omega
          have HA2 := Lib.hid (show (G.take (j + 1)).any (fun b => decide (3000 < b.length)) = false by
            rw [hsn.out, List.any_append, HA.out, Bool.false_or]
            simp; have := HN'.out; omega)
          go_wp2_with fail
          go_roundw
          case rel => first | exact ⟨j + 1, by omega, by first | rfl | go_num | simp, hS, HA2⟩ | ((repeat apply Exists.intro); refine ⟨?_, rfl⟩; exact ⟨j + 1, by omega, by first | rfl | go_num | simp, hS, HA2⟩)
          case measure => simp [intOf]; omega
      · obtain rfl : N = j := by omega
        have hjI : ¬ (N : Int) < (N : Int) := by omega
        have HRT := Lib.hid (show R = false by rw [HR.out, ← HA.out, HN.out, List.take_length])
        go_wp2_with fail
        go_ret
        exact ⟨by rw [HRT.out]; first | rfl | simp, hS⟩
end Go.Proofs.Ytcjjcjpkmjbfkaa
