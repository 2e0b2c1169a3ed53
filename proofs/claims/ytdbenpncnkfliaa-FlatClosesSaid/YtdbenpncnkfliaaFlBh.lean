/-
  Texts of this seat, put together: each with its own head.
-/
import Derived.Test.YtdbenpncnkfliaaFlBg

/-
  Outlines as lists of lists of knots: as they read, and as a call has made them.
-/
namespace Go.Proofs.Ytdbenpncnkfliaa
open Go.RowKit Go.ChangeShapes Go.WideShapes Go.Deep
set_option linter.unusedVariables false

/-- A contour's header. -/
structure Hd where
  (A : Option Addr) (n c : Nat)
def hdL (h : Hd) : List Value := [.slice h.A h.n h.c]
theorem hdL_len (h : Hd) : (hdL h).length = 1 := rfl
theorem hdL_one (h : Hd) : ∀ u ∈ hdL h, u.oneCell' = true := by
  intro u hu
  simp only [hdL, List.mem_cons, List.not_mem_nil, or_false] at hu
  subst hu
  rfl
theorem infoCt0 : (Try.prog.info? 23).map (fun i => (i.zero, i.size, i.bytes)) = some (some (.slice none 0 0), 1, 24) := by kernel_rfl
theorem infoCt : ∃ i z, Try.prog.info? 23 = some i ∧ i.zero = some z ∧ i.size = 1 ∧ i.bytes = 24 ∧ z.cells.size = 1 := by
  obtain ⟨i0, hi, hz0, hz1, hz2⟩ := info_parts infoCt0
  exact ⟨i0, _, hi, hz0, hz1, hz2, rfl⟩
/-- An outline as it reads, in blocks below B. -/
def RdOL (w : World) (B : Nat) (A : Option Addr) (LL : List (List Kt)) : Prop :=
  ∃ hs : List Hd, hs.length = LL.length ∧ RdG 1 hdL w B A hs ∧ ∀ (j : Nat) h L, hs[j]? = some h → LL[j]? = some L → h.n = L.length ∧ RdKl w B h.A L
section
variable {w w' : World} {B B' : Nat} {A : Option Addr} {LL : List (List Kt)}
theorem RdOL.keep (h : RdOL w B A LL) (hk : ∀ b o, b < B → w'.cell? ⟨b, o, none⟩ = w.cell? ⟨b, o, none⟩) : RdOL w' B A LL := by
  obtain ⟨hs, hl, hr, hK⟩ := h
  exact ⟨hs, hl, hr.keep hk, fun j x L h1 h2 => ⟨(hK j x L h1 h2).1, (hK j x L h1 h2).2.keep hk⟩⟩
theorem RdOL.more (h : RdOL w B A LL) (hB : B ≤ B') : RdOL w B' A LL := by
  obtain ⟨hs, hl, hr, hK⟩ := h
  exact ⟨hs, hl, hr.more hB, fun j x L h1 h2 => ⟨(hK j x L h1 h2).1, (hK j x L h1 h2).2.more hB⟩⟩
theorem RdOL.on (h : RdOL w w.heap.size A LL) (k : Since w w') : RdOL w' w'.heap.size A LL := (h.keep fun b o hb => k.1 b o hb).more k.below.size
/-- One contour: its header's cell, and its knots. -/
theorem RdOL.row (h : RdOL w B A LL) {j : Nat} {L : List Kt} (hj : LL[j]? = some L) : ∃ b o A' c', A = some ⟨b, o, none⟩ ∧ b < B ∧ w.cell? ⟨b, o + j, none⟩ = some (.slice A' L.length c') ∧ RdKl w B A' L := by
  obtain ⟨hs, hl, hr, hK⟩ := h
  have hjl : j < hs.length := by
    rw [hl]
    rcases Nat.lt_or_ge j LL.length with h | h
    · exact h
    · rw [List.getElem?_eq_none h] at hj; cases hj
  obtain ⟨b, o, rfl, hb, hc⟩ := hr (by omega)
  have h1 : hs[j]? = some hs[j] := List.getElem?_eq_getElem hjl
  obtain ⟨e1, h2⟩ := hK j _ L h1 hj
  refine ⟨b, o, hs[j].A, hs[j].c, rfl, hb, ?_, h2⟩
  have h3 := hc j _ h1 0 (by omega)
  rw [Nat.mul_one, Nat.add_zero] at h3
  rw [h3, ← e1]
  rfl
end
/-- An outline that a call has made. -/
def OwnO (w : World) (base : Nat) (v : Value) (LL : List (List Kt)) : Prop :=
  ∃ hs : List Hd, hs.length = LL.length ∧ OwnG 23 1 hdL w base v hs ∧ ∀ (j : Nat) h L, hs[j]? = some h → LL[j]? = some L → OwnK w base (.slice h.A h.n h.c) L
theorem own_apart {α β : Type} {e1 : α → List Value} {e2 : β → List Value} {t1 t2 : TypeId} {k1 k2 b1 b2 : Nat} {w : World} {v1 v2 : Value} {L1 : List α} {L2 : List β} (h1 : OwnG t1 k1 e1 w b1 v1 L1) (h2 : OwnG t2 k2 e2 w b2 v2 L2) (ht : t1 ≠ t2) {q : Nat} (hq : v1.ownBlock = some q) : v2.ownBlock ≠ some q := by
  intro hq2
  rcases h1.2 with ⟨rfl, _⟩ | ⟨g, c, cur, rfl, _, hh, _⟩
  · cases hq
  · rcases h2.2 with ⟨rfl, _⟩ | ⟨g', c', cur', rfl, _, hh', _⟩
    · cases hq2
    · simp only [Value.ownBlock, Option.some.injEq] at hq hq2
      subst hq
      subst hq2
      rw [hh] at hh'
      injection hh' with hh'
      injection hh' with _ e _
      exact ht e
section
variable {w w' : World} {base : Nat} {v : Value} {LL : List (List Kt)}
theorem OwnO.nil (w : World) (base : Nat) : OwnO w base (.slice none 0 0) [] := ⟨[], rfl, OwnG.nil _ _ _ _ _, fun j h L h1 h2 => by simp at h1⟩
theorem OwnO.since (h : OwnO w base v LL) (k : Since w w') : OwnO w' base v LL := by
  obtain ⟨hs, hl, ho, hK⟩ := h
  exact ⟨hs, hl, ho.since k, fun j x L h1 h2 => (hK j x L h1 h2).since k⟩
theorem OwnO.rd (h : OwnO w base v LL) : ∃ A c, v = .slice A LL.length c ∧ LL.length ≤ c ∧ RdOL w w.heap.size A LL := by
  obtain ⟨hs, hl, ho, hK⟩ := h
  obtain ⟨A, c, rfl, hc, hr⟩ := ho.rd (by omega) hdL_len
  rw [hl] at hc ⊢
  refine ⟨A, c, rfl, hc, hs, hl, hr, fun j x L h1 h2 => ?_⟩
  obtain ⟨A', c', e, hc', hr'⟩ := (hK j x L h1 h2).rd (by omega) knL_len
  injection e with e1 e2 e3
  exact ⟨e2, by rw [e1]; exact hr'⟩
/-- .. with a contour more, behind an append to its headers. -/
theorem OwnO.snoc {v' : Value} {A' : Option Addr} {n' c' : Nat} {L : List Kt} (h : OwnO w base v LL) (hrow : OwnK w base (.slice A' n' c') L) {hs : List Hd} (hl : hs.length = LL.length)
    (ho : OwnG 23 1 hdL w base v hs) (hK : ∀ (j : Nat) h L, hs[j]? = some h → LL[j]? = some L → OwnK w base (.slice h.A h.n h.c) L)
    (h9 : OwnG 23 1 hdL w' base v' (hs ++ [⟨A', n', c'⟩])) (hg : w.grownBy w' v.ownBlock) : OwnO w' base v' (LL ++ [L]) := by
  have hne : 23 ≠ 39 := by decide
  refine ⟨hs ++ [⟨A', n', c'⟩], by simp [hl], h9, fun j x M h1 h2 => ?_⟩
  by_cases hj : j < hs.length
  · rw [List.getElem?_append_left hj] at h1
    rw [List.getElem?_append_left (by omega)] at h2
    have hk := hK j x M h1 h2
    exact OwnG.grown hk hg (fun q hq e => own_apart ho hk hne e hq)
  · rw [List.getElem?_append_right (by omega)] at h1
    rw [List.getElem?_append_right (by omega)] at h2
    have e : j - hs.length = 0 := by
      rcases Nat.eq_zero_or_pos (j - hs.length) with h | h
      · exact h
      · rw [List.getElem?_eq_none (by simp; omega)] at h1; cases h1
    rw [e] at h1
    rw [← hl, e] at h2
    simp only [List.getElem?_cons_zero, Option.some.injEq] at h1 h2
    subst h1 h2
    exact OwnG.grown hrow hg (fun q hq e => own_apart ho hrow hne e hq)
end
/-- What 'Same' needs. -/
def outD (LL : List (List Kt)) (hs : List Hd) : OutD :=
  ⟨LL.length, fun j => (hs.getD j ⟨none, 0, 0⟩).A, fun j => (LL.getD j []).length, fun j => (hs.getD j ⟨none, 0, 0⟩).c, fun j i => ((LL.getD j []).getD i ⟨0, 0, false⟩).x, fun j i => ((LL.getD j []).getD i ⟨0, 0, false⟩).y, fun j i => ((LL.getD j []).getD i ⟨0, 0, false⟩).o⟩
theorem RdOL.out {w : World} {B : Nat} {A : Option Addr} {LL : List (List Kt)} (h : RdOL w B A LL) (hm : ∀ L, L ∈ LL → L.length ≤ maxLen) : ∃ hs, RdO w B A (outD LL hs) := by
  obtain ⟨hs, hl, hr, hK⟩ := h
  refine ⟨hs, fun hn => ?_, fun j hj => ?_, fun j hj => ?_⟩
  · obtain ⟨b, o, rfl, hb, hc⟩ := hr (by rw [hl]; exact hn)
    refine ⟨b, o, rfl, hb, fun j hj => ?_⟩
    have hj' : j < LL.length := hj
    have h1 : hs[j]? = some hs[j] := List.getElem?_eq_getElem (by omega)
    have h2 : LL[j]? = some LL[j] := List.getElem?_eq_getElem hj'
    have h3 := hc j _ h1 0 (by omega)
    rw [Nat.mul_one, Nat.add_zero] at h3
    rw [h3]
    unfold OutD.hd outD
    simp only [List.getD_eq_getElem?_getD, h1, h2, Option.getD_some]
    rw [← (hK j _ _ h1 h2).1]
    rfl
  · have hj' : j < LL.length := hj
    have h1 : hs[j]? = some hs[j] := List.getElem?_eq_getElem (by omega)
    have h2 : LL[j]? = some LL[j] := List.getElem?_eq_getElem hj'
    have hk := (hK j _ _ h1 h2).2
    unfold outD
    simp only [List.getD_eq_getElem?_getD, h1, h2, Option.getD_some]
    intro hn
    obtain ⟨b, o, e, hb, hc⟩ := hk hn
    refine ⟨b, o, e, hb, fun i hi => ?_⟩
    have h4 : LL[j][i]? = some LL[j][i] := List.getElem?_eq_getElem hi
    have h5 := hc i _ h4
    simp only [h4, Option.getD_some]
    exact ⟨h5 0 (by omega), h5 1 (by omega), h5 2 (by omega)⟩
  · have hj' : j < LL.length := hj
    have h2 : LL[j]? = some LL[j] := List.getElem?_eq_getElem hj'
    show (LL.getD j []).length ≤ maxLen
    rw [List.getD_eq_getElem?_getD, h2]
    exact hm _ (List.getElem_mem hj')
theorem rf_sameL (A A' : Option Addr) (c c' : Nat) (LL : List (List Kt)) (w : World) (h : RdOL w w.heap.size A LL) (h' : RdOL w w.heap.size A' LL) (hn : LL.length ≤ maxLen) (hm : ∀ L, L ∈ LL → L.length ≤ maxLen) :
    Calls Try.prog 18 #[.slice A LL.length c, .slice A' LL.length c'] w fun e w' => e = .returned (.bool true) ∧ Since w w' := by
  obtain ⟨hs, h1⟩ := h.out hm
  obtain ⟨hs', h2⟩ := h'.out hm
  exact rf_same7 A A' c c' (outD LL hs) (outD LL hs') w h1 h2 ⟨rfl, fun j hj => ⟨rfl, fun i hi => ⟨rfl, rfl, rfl⟩⟩⟩ hn
end Go.Proofs.Ytdbenpncnkfliaa

/-
  Rows that a call has made and fills in place: 'make', and stores into them.
-/
namespace Go.Proofs.Ytdbenpncnkfliaa
open Go.RowKit Go.ChangeShapes Go.WideShapes Go.Deep
set_option linter.unusedVariables false

/-- All blocks but one are as they were. -/
def KeepBut (q : Nat) (w w' : World) : Prop := w.heap.size ≤ w'.heap.size ∧ ∀ b, b < w.heap.size → b ≠ q → w'.heap[b]? = w.heap[b]?
theorem KeepBut.refl (q : Nat) (w : World) : KeepBut q w w := ⟨Nat.le_refl _, fun _ _ _ => rfl⟩
theorem KeepBut.trans {q : Nat} {a b c : World} (h : KeepBut q a b) (k : KeepBut q b c) : KeepBut q a c := ⟨Nat.le_trans h.1 k.1, fun x hx hq => (k.2 x (Nat.lt_of_lt_of_le hx h.1) hq).trans (h.2 x hx hq)⟩
theorem KeepBut.since {q : Nat} {a b c : World} (h : KeepBut q a b) (k : Since b c) : KeepBut q a c := ⟨Nat.le_trans h.1 k.below.size, fun x hx hq => (k.below.block x (Nat.lt_of_lt_of_le hx h.1)).trans (h.2 x hx hq)⟩
theorem KeepBut.set {q : Nat} {a b : World} (h : KeepBut q a b) (o : Nat) (v : Value) : KeepBut q a (b.setCell ⟨q, o, none⟩ v) := ⟨by simpa [World.setCell] using h.1, fun x hx hq => by
  rw [← h.2 x hx hq]
  simp [World.setCell, Array.getElem?_modify, show ¬ q = x from fun e => hq e.symm]⟩
theorem KeepBut.cell {q : Nat} {a b : World} (h : KeepBut q a b) {x o : Nat} {v : Value} (hc : a.cell? ⟨x, o, none⟩ = some v) (hx : x < a.heap.size) (hq : x ≠ q) : b.cell? ⟨x, o, none⟩ = some v := by
  rw [← hc]; simp only [World.cell?, h.2 x hx hq]
theorem OwnG.but {α : Type} {enc : α → List Value} {t : TypeId} {k base q : Nat} {w w' : World} {v : Value} {L : List α} (h : OwnG t k enc w base v L) (hk : KeepBut q w w') (hq : v.ownBlock ≠ some q) : OwnG t k enc w' base v L := by
  refine ⟨h.1, ?_⟩
  rcases h.2 with h0 | ⟨g, cap, cur, rfl, hb, hh, r⟩
  · exact .inl h0
  · refine .inr ⟨g, cap, cur, rfl, hb, ?_, r⟩
    have hlt : g < w.heap.size := by
      rcases Nat.lt_or_ge g w.heap.size with hlt | hge
      · exact hlt
      · rw [Array.getElem?_eq_none hge] at hh; cases hh
    rw [hk.2 g hlt (fun e => hq (by rw [← e]; rfl))]; exact hh
section
variable {α : Type} {k : Nat} {enc : α → List Value} {P : Program}
theorem made_cells (hk0 : 0 < k) (hk : ∀ a, (enc a).length = k) (z0 : α) (z : Array Value) (hz : z.toList = enc z0) (n : Nat) : (madeCells z (n * k)).toList = cellsG enc (List.replicate n z0) := by
  have hzs : z.size = k := by rw [← Array.length_toList, hz, hk]
  apply List.ext_getElem?
  intro j
  by_cases hj : j < n * k
  · have hjk : j / k < n := by rw [Nat.div_lt_iff_lt_mul hk0]; exact hj
    have hm := Nat.mod_lt j hk0
    have h1 := cellsG_get hk (List.replicate n z0) (j / k) z0 (by simp [hjk]) (j % k) hm
    rw [Nat.div_add_mod' j k] at h1
    rw [h1, ← hz]
    have h2 : j % k < z.size := by omega
    simp [madeCells, hj, hzs]
    rw [getElem!_pos z _ h2, getElem?_pos z _ h2]
  · rw [List.getElem?_eq_none (by simp [madeCells]; omega), List.getElem?_eq_none (by rw [cellsG_len hk]; simp; omega)]
/-- make([]T, n): an own row of zero values. -/
theorem wpList_make_g {w : World} {ops : Array Oper} {rest : List Oper} {o : Oper} {a : Act} {Q : Exit → Act → World → Prop}
    (hg : o.guard = none) (l c : Operand) (t e : TypeId) (hop : o.op = Op.makeSlice t l c) (hk0 : 0 < k) (hk : ∀ a, (enc a).length = k) (bytes : Nat) (z0 : α)
    (ht : P.underlying t = some (.slice e)) (hinfo : ∃ i z, P.info? e = some i ∧ i.zero = some z ∧ i.size = k ∧ i.bytes = bytes ∧ z.cells.toList = enc z0)
    (n : Nat) (hl : a.eval l = .int .i64 (n : Int)) (hc : a.eval c = .int .i64 (n : Int)) (b2 : bytes * n ≤ 281474976710656) (b3 : n ≤ maxLen)
    (base : Nat) (hbase : base ≤ w.heap.size)
    (hK : ∀ w', OwnG e k enc w' base (.slice (some ⟨w.heap.size, 0, none⟩) n n) (List.replicate n z0) → w.grownBy w' none → wpList P ops Q rest (a.put o.dst (.slice (some ⟨w.heap.size, 0, none⟩) n n)) w') :
    wpList P ops Q (o :: rest) a w := by
  obtain ⟨i, z, hi, hz, hsz, hby, hzc⟩ := hinfo
  refine wpList_make_full w hg l c t hop base e i z k ht hi hz hsz .i64 .i64 (n : Int) (n : Int) n hl hc rfl rfl (by rw [hby]; exact b2) b3 hbase (fun w' hown hgr => hK w' ?_ hgr)
  rw [made_cells hk0 hk z0 z.cells hzc] at hown
  unfold OwnG
  rw [List.length_replicate]
  exact hown
end
theorem infoKn2 : ∃ i z, Try.prog.info? 39 = some i ∧ i.zero = some z ∧ i.size = 3 ∧ i.bytes = 24 ∧ z.cells.toList = knL ⟨0, 0, false⟩ := by
  obtain ⟨i0, hi, hz0, hz1, hz2⟩ := info_parts infoKn0
  exact ⟨i0, _, hi, hz0, hz1, hz2, rfl⟩
theorem infoCt2 : ∃ i z, Try.prog.info? 23 = some i ∧ i.zero = some z ∧ i.size = 1 ∧ i.bytes = 24 ∧ z.cells.toList = hdL ⟨none, 0, 0⟩ := by
  obtain ⟨i0, hi, hz0, hz1, hz2⟩ := info_parts infoCt0
  exact ⟨i0, _, hi, hz0, hz1, hz2, rfl⟩
theorem set_app {α : Type} (A B : List α) (j : Nat) (v : α) : (A ++ B).set (A.length + j) v = A ++ B.set j v := by
  rw [List.set_append_right _ _ (by omega)]
  congr 2
  omega
theorem cellsK_set : ∀ (L : List Kt) (i : Nat) (x y : Int) (o : Bool), i < L.length → (((cellsG knL L).set (i * 3) (.int .i64 x)).set (i * 3 + 1) (.int .i64 y)).set (i * 3 + 2) (.bool o) = cellsG knL (L.set i ⟨x, y, o⟩)
  | [], i, x, y, o, h => by simp at h
  | k :: L, 0, x, y, o, h => by simp [cellsG, knL]
  | k :: L, i + 1, x, y, o, h => by
    have ih := cellsK_set L i x y o (by simpa using h)
    have e0 : cellsG knL (k :: L) = knL k ++ cellsG knL L := by simp [cellsG]
    have e1 : cellsG knL ((k :: L).set (i + 1) ⟨x, y, o⟩) = knL k ++ cellsG knL (L.set i ⟨x, y, o⟩) := by simp [cellsG]
    have el : (knL k).length = 3 := rfl
    rw [e0, e1, ← ih, show (i + 1) * 3 = (knL k).length + i * 3 by rw [el]; omega, set_app, Nat.add_assoc, set_app, Nat.add_assoc, set_app]
theorem OwnK.put {w : World} {base q n c : Nat} {L : List Kt} (h : OwnK w base (.slice (some ⟨q, 0, none⟩) n c) L) (i : Nat) (x y : Int) (o : Bool) (hi : i < L.length) :
    OwnK (((w.setCell ⟨q, i * 3, none⟩ (.int .i64 x)).setCell ⟨q, i * 3 + 1, none⟩ (.int .i64 y)).setCell ⟨q, i * 3 + 2, none⟩ (.bool o)) base (.slice (some ⟨q, 0, none⟩) n c) (L.set i ⟨x, y, o⟩) := by
  have hn : n = L.length := by
    rcases h.2 with ⟨h0, _⟩ | ⟨g, cap, cur, h0, _⟩
    · cases h0
    · injection h0 with _ h1 _
  subst hn
  have h3 := ((World.ownsRow.stored (World.ownsRow.stored (World.ownsRow.stored h (i * 3) (.int .i64 x)).1 (i * 3 + 1) (.int .i64 y)).1 (i * 3 + 2) (.bool o)).1)
  rw [cellsK_set L i x y o hi] at h3
  unfold OwnK OwnG
  rw [List.length_set]
  exact h3
theorem OwnH.put {w : World} {base q n c : Nat} {hs : List Hd} (h : OwnG 23 1 hdL w base (.slice (some ⟨q, 0, none⟩) n c) hs) (i : Nat) (A : Option Addr) (m d : Nat) (hi : i < hs.length) :
    OwnG 23 1 hdL (w.setCell ⟨q, i, none⟩ (.slice A m d)) base (.slice (some ⟨q, 0, none⟩) n c) (hs.set i ⟨A, m, d⟩) := by
  have hn : n = hs.length := by
    rcases h.2 with ⟨h0, _⟩ | ⟨g, cap, cur, h0, _⟩
    · cases h0
    · injection h0 with _ h1 _
  subst hn
  have h3 := (World.ownsRow.stored h i (.slice A m d)).1
  have e : (cellsG hdL hs).set i (.slice A m d) = cellsG hdL (hs.set i ⟨A, m, d⟩) := by
    clear h h3
    induction hs generalizing i with
    | nil => simp at hi
    | cons a r ih =>
      cases i with
      | zero => simp [cellsG, hdL]
      | succ i =>
        have := ih i (by simpa using hi)
        simp only [cellsG, List.flatMap_cons, hdL, List.cons_append, List.nil_append, List.set_cons_succ] at this ⊢
        rw [this]
  rw [e] at h3
  unfold OwnG
  rw [List.length_set]
  exact h3
end Go.Proofs.Ytdbenpncnkfliaa

/-
  Layer 11: 'Lift', walked.
-/
namespace Go.Proofs.Ytdbenpncnkfliaa
open Go.RowKit Go.ChangeShapes Go.WideShapes Go.Deep
set_option linter.unusedVariables false

def liftK (k : Kt) : Kt := ⟨64 * k.x, 64 * k.y, k.o⟩
def inUnit (k : Kt) : Prop := -32768 ≤ k.x ∧ k.x ≤ 32767 ∧ -32768 ≤ k.y ∧ k.y ≤ 32767
instance (k : Kt) : Decidable (inUnit k) := by unfold inUnit; infer_instance
def K0 : Kt := ⟨0, 0, false⟩
/-- All of the knots ahead of a place are in range. -/
def allIn (LL : List (List Kt)) : Prop := ∀ L, L ∈ LL → ∀ k, k ∈ L → inUnit k
theorem lift_fill (L : List Kt) (i : Nat) (hi : i < L.length) :
    ((L.take i).map liftK ++ List.replicate (L.length - i) K0).set i (liftK L[i]) = (L.take (i + 1)).map liftK ++ List.replicate (L.length - (i + 1)) K0 := by
  have hl : ((L.take i).map liftK).length = i := by simp; omega
  rw [List.set_append_right _ _ (by omega), hl, Nat.sub_self, List.take_succ_eq_append_getElem hi, List.map_append, List.append_assoc]
  congr 1
  obtain ⟨d, hd⟩ : ∃ d, L.length - i = d + 1 := ⟨L.length - i - 1, by omega⟩
  rw [hd, List.replicate_succ, show L.length - (i + 1) = d by omega]
  rfl
theorem fill_len (L : List Kt) (i : Nat) (hi : i ≤ L.length) : ((L.take i).map liftK ++ List.replicate (L.length - i) K0).length = L.length := by simp; omega
/-- What 'Lift' answers. -/
def LiftOut (w : World) (LL : List (List Kt)) (e : Ending) (w' : World) : Prop :=
  (allIn LL ∧ ∃ v base, e = .returned (.tuple #[v, .int .i64 0]) ∧ w.heap.size ≤ base ∧ OwnO w' base v (LL.map (List.map liftK)) ∧ Since w w') ∨ (¬ allIn LL ∧ e = .returned (.tuple #[.slice none 0 0, .int .i64 6]) ∧ Since w w')
set_option maxRecDepth 1000000 in
set_option maxHeartbeats 32000000 in
theorem ou_lift (A : Option Addr) (c : Nat) (LL : List (List Kt)) (w : World) (h : RdOL w w.heap.size A LL) (hn : LL.length ≤ 1000000) (hm : ∀ L, L ∈ LL → L.length ≤ 1000000) :
    Calls Try.prog 28 #[.slice A LL.length c] w (LiftOut w LL) := by
  obtain ⟨N, hN⟩ : ∃ N, N = LL.length := ⟨_, rfl⟩
  rw [← hN] at hn ⊢
  have HN := Lib.hid hN
  have HM := Lib.hid hm
  have hmin := min2_run
  have hmax := max2_run
  clear hN hm
  have hNI : (0 : Int) ≤ (N : Int) := by omega
  go_enter Try.func28, Try.ntmps28
  go_wp2_with (at_make; refine wpList_make_g rfl _ _ 29 23 rfl (by omega) hdL_len 24 ⟨none, 0, 0⟩ Try.underlying29 infoCt2 N rfl rfl (by omega) (by simp only [maxLen]; omega) w.heap.size (Nat.le_refl _) ?_; intro w1 hO1 hg1)
  have hS1 : Since w w1 := since_grown (Since.refl w) hg1 (fun q hq => by cases hq)
  have hb1 := (hO1.lt (g := w.heap.size) rfl).2
  obtain ⟨hb0, hbe⟩ : ∃ hb0, hb0 = w.heap.size := ⟨_, rfl⟩
  have hbw : w.heap.size ≤ hb0 := by omega
  rw [← hbe] at hb1 ⊢
  have hO1 : OwnG 23 1 hdL w1 w.heap.size (.slice (some ⟨hb0, 0, none⟩) N N) (List.replicate N ⟨none, 0, 0⟩) := by rw [hbe]; exact hO1
  clear hbe hg1
  go_loopw [14] (fun y wr => ∃ (j : Nat) (hs : List Hd), j ≤ N ∧ y = .int .i64 (j : Int) ∧ hs.length = N ∧ OwnG 23 1 hdL wr w.heap.size (.slice (some ⟨hb0, 0, none⟩) N N) hs ∧ Since w wr ∧ Hid ((∀ (i : Nat) x L, i < j → hs[i]? = some x → LL[i]? = some L → OwnK wr w.heap.size (.slice x.A x.n x.c) (L.map liftK)) ∧ ∀ (i : Nat) L, i < j → LL[i]? = some L → ∀ k, k ∈ L → inUnit k)) (fun y _ => N - (intOf y).toNat)
  case atStart => exact ⟨0, _, by omega, rfl, by simp, hO1, hS1, Lib.hid ⟨fun i x L hi => absurd hi (by omega), fun i L hi => absurd hi (by omega)⟩⟩
  case round =>
    obtain ⟨j, hs, hj, rfl, hsl, hO, hS, HK⟩ := hrel
    by_cases hjn : j < N
    · have hjn' : (j : Int) < N := by omega
      have hjL : j < LL.length := by rw [← HN.out]; exact hjn
      have hL : LL[j]? = some LL[j] := List.getElem?_eq_getElem hjL
      have hml := HM.out _ (List.mem_of_getElem? hL)
      have HLJ := Lib.hid hL
      generalize LL[j] = L at *
      obtain ⟨b, o, A', c', rfl, hb, hcell, hK⟩ := h.row hL
      have c1 := (hS.1 _ _ hb).trans hcell
      have hbw1 := hS.2.2.1 _ hb
      have hwz := hS.below.size
      have hbz := (hO.lt (g := hb0) rfl).2
      obtain ⟨n, hnl⟩ : ∃ n, n = L.length := ⟨_, rfl⟩
      rw [← hnl] at hml c1
      have HNL := Lib.hid hnl
      clear hL h hcell hjL hnl
      have hOr : wr.ownsRow w.heap.size 23 1 (.slice (some ⟨hb0, 0, none⟩) N N) N (cellsG hdL hs) := by
        have hx := hO
        unfold OwnG at hx
        rw [hsl] at hx
        exact hx
      have hfz := World.ownsRow.frozenAt hOr j
      clear hOr
      have hcj : wr.cell? ⟨hb0, j, none⟩ = some (.slice (hs.getD j ⟨none, 0, 0⟩).A (hs.getD j ⟨none, 0, 0⟩).n (hs.getD j ⟨none, 0, 0⟩).c) := by
        have hx : hs[j]? = some hs[j] := List.getElem?_eq_getElem (by omega)
        obtain ⟨A2, c2, e, _, hr2⟩ := hO.rd (by omega) hdL_len
        injection e with e1 e2 e3
        subst e1
        obtain ⟨b3, o3, e4, _, hc3⟩ := hr2 (by omega)
        injection e4 with e4
        injection e4 with e5 e6
        subst e5 e6
        have := hc3 j _ hx 0 (by omega)
        rw [Nat.zero_add, Nat.mul_one, Nat.add_zero] at this
        have hgd : hs.getD j ⟨none, 0, 0⟩ = hs[j] := by rw [List.getD_eq_getElem?_getD, hx]; rfl
        rw [this, hgd]
        rfl
      generalize hs.getD j ⟨none, 0, 0⟩ = h0 at *
      go_upto_region 6 with (at_make; refine wpList_make_g rfl _ _ 23 39 rfl (by omega) knL_len 24 K0 Try.underlying23 infoKn2 n rfl rfl (by omega) (by simp only [maxLen]; omega) w.heap.size hwz ?_; intro w4 hO4 hg4; have hc4 := cell_grown hcj hbz hg4 (by simp); have hf4 : w4.frozen? ⟨hb0, j, none⟩ = false := (by rw [← hfz]; exact World.frozen?_of_block (hg4.block hb0 hbz (by simp))); have hz4 := Nat.lt_of_lt_of_le hbz hg4.size)
      obtain ⟨q, hq0⟩ : ∃ q, q = wr.heap.size := ⟨_, rfl⟩
      have hrows : Hid ((∀ (i : Nat) x M, i < j → hs[i]? = some x → LL[i]? = some M → OwnK w4 w.heap.size (.slice x.A x.n x.c) (M.map liftK) ∧ (Value.slice x.A x.n x.c).ownBlock ≠ some q) ∧ ∀ (i : Nat) M, i < j → LL[i]? = some M → ∀ k, k ∈ M → inUnit k) := Lib.hid ⟨fun i x M h1 h2 h3 => by
        have hk := HK.out.1 i x M h1 h2 h3
        exact ⟨OwnG.grown hk hg4 (fun q hq e => by cases e), fun e => by have := (hk.lt e).2; omega⟩, HK.out.2⟩
      have hOh := OwnG.grown hO hg4 (fun q hq e => by cases e)
      have hS4 : Since w w4 := since_grown hS hg4 (fun q hq => by cases hq)
      have hbq : hb0 ≠ q := by omega
      have hqw : w.heap.size ≤ q := by omega
      have hq4 : q < w4.heap.size := by rw [hq0]; exact (hO4.lt rfl).2
      rw [← hq0] at hO4 ⊢
      clear hq0 hO hS HK hcj hfz hg4 c1 hbw1 hwz hbz
      have hne : 23 ≠ 39 := by decide
      go_upto_region 6 with fail
      refine wp_named fun w5 hw5 => ?_
      have hkb : KeepBut hb0 w4 w5 := by subst hw5; exact (KeepBut.refl hb0 w4).set j _
      have hc5 : w5.cell? ⟨hb0, j, none⟩ = some (.slice (some ⟨q, 0, none⟩) n n) := by subst hw5; rw [cell_set, if_pos ⟨rfl, rfl⟩, hc4]; rfl
      have hOw4 := hOh
      have hOh : OwnG 23 1 hdL w5 w.heap.size (.slice (some ⟨hb0, 0, none⟩) N N) (hs.set j ⟨some ⟨q, 0, none⟩, n, n⟩) := by subst hw5; exact OwnH.put hOh j (some ⟨q, 0, none⟩) n n (by omega)
      have hO5 := OwnG.but hO4 hkb (fun e => by injection e with e; exact hbq e.symm)
      have hS5 : Since w w5 := by subst hw5; exact hS4.setCell hbw _
      have hz5 := hkb.1
      have hb5 : hb0 < w5.heap.size := by omega
      have HR5 : Hid ((∀ (i : Nat) x M, i < j → hs[i]? = some x → LL[i]? = some M → OwnK w5 w.heap.size (.slice x.A x.n x.c) (M.map liftK) ∧ (Value.slice x.A x.n x.c).ownBlock ≠ some q) ∧ ∀ (i : Nat) M, i < j → LL[i]? = some M → ∀ k, k ∈ M → inUnit k) := Lib.hid ⟨fun i x M h1 h2 h3 => by
        obtain ⟨hk, hx⟩ := hrows.out.1 i x M h1 h2 h3
        refine ⟨OwnG.but hk hkb (fun e => ?_), hx⟩
        exact own_apart hOw4 hk hne rfl e, hrows.out.2⟩
      have hO5 : OwnK w5 w.heap.size (.slice (some ⟨q, 0, none⟩) n n) ((L.take 0).map liftK ++ List.replicate (n - 0) K0) := by simpa using hO5
      clear hkb hc4 hf4 hz4 hOw4 hO4 hrows hS4 hq4 hw5
      go_wp2_with fail
      go_loopw [27] (fun y wr' => ∃ k : Nat, k ≤ n ∧ y = .int .i64 (k : Int) ∧ OwnK wr' w.heap.size (.slice (some ⟨q, 0, none⟩) n n) ((L.take k).map liftK ++ List.replicate (n - k) K0) ∧ KeepBut q w5 wr' ∧ Since w wr' ∧ Hid (∀ (t : Nat) K, t < k → L[t]? = some K → inUnit K)) (fun y _ => n - (intOf y).toNat)
      case atStart => exact ⟨0, by omega, rfl, hO5, KeepBut.refl _ _, hS5, Lib.hid (fun t K ht => absurd ht (by omega))⟩
      case round =>
        obtain ⟨k, hk, rfl, hO, hkp, hS, HU⟩ := hrel
        by_cases hkn : k < n
        · have hkn' : (k : Int) < n := by omega
          have hkl : k < L.length := by rw [← HNL.out]; exact hkn
          have hkL : L[k]? = some L[k] := List.getElem?_eq_getElem hkl
          have hfill := lift_fill L k hkl
          obtain ⟨bk, ok, rfl, hbk, hck⟩ := hK (by omega)
          have c1 := (hS.1 _ _ hbk).trans (hck k _ hkL 0 (by omega))
          have c2 := (hS.1 _ _ hbk).trans (hck k _ hkL 1 (by omega))
          have c3 := (hS.1 _ _ hbk).trans (hck k _ hkL 2 (by omega))
          have hbw1 := hS.2.2.1 _ hbk
          rw [← HNL.out] at hfill
          have HF := Lib.hid hfill
          have HKL := Lib.hid hkL
          clear hfill hkL hck hK
          generalize L[k] = K at *
          obtain ⟨x, y, o⟩ := K
          simp only [knL, List.getD_cons_succ, List.getD_cons_zero, Nat.add_zero] at c1 c2 c3
          go_upto_region 9 with fail
          refine wp_named fun w6 hw6 => ?_
          have rT : Row w6 wr.heap.size 3 (Kf x y o) := by subst hw6; exact krow wr _ rfl _ _ _ _
          have hS6 : Since wr w6 := by subst hw6; (repeat (first | with_reducible (exact Since.refl _) | with_reducible assumption | with_reducible (refine Since.drew ?_) | with_reducible (refine Since.drewN ?_ _) | with_reducible (refine Since.alloc ?_ _) | (with_reducible (refine Since.setCell ?_ ?_ _); rotate_left; focus (first | (simp; done) | (simp; omega) | omega)) | (with_reducible (refine Since.trans ?_ (by with_reducible assumption)))))
          clear hw6 c1 c2 c3 hbw1
          have hO := OwnG.since hO hS6
          have hkp := hkp.since hS6
          have hS := hS.trans hS6
          have hz6 := hkp.1
          generalize wr.heap.size = tb at *
          obtain ⟨t1, t2, t3, t4⟩ := kcells rT
          have hc6 := hkp.cell hc5 hb5 hbq
          have hb6 : hb0 < w6.heap.size := by omega
          by_cases hin : inUnit ⟨x, y, o⟩
          · obtain ⟨v1, v2, v3, v4⟩ := hin
            simp only at v1 v2 v3 v4
            have d1 : decide ((32767 : Int) < hi2 x y) = false := by unfold hi2; split <;> simp <;> omega
            have d2 : decide (lo2 x y < (-32768 : Int)) = false := by unfold lo2; split <;> simp <;> omega
            have u1 : IntKind.i64.wrap (64 * x) = 64 * x := IntWalk.i64_in _ (by omega)
            have u2 : IntKind.i64.wrap (64 * y) = 64 * y := IntWalk.i64_in _ (by omega)
            have hin : inUnit ⟨x, y, o⟩ := ⟨v1, v2, v3, v4⟩
            have HIN := Lib.hid hin
            clear hin v1 v2 v3 v4
            have hol : ((L.take k).map liftK ++ List.replicate (n - k) K0).length = n := by rw [HNL.out]; exact fill_len L k (by omega)
            obtain ⟨A2, c2, e2, _, hr2⟩ := OwnG.rd (by omega) knL_len hO
            injection e2 with e2 e2a e2b
            subst e2
            clear e2a e2b
            obtain ⟨b3, o3, e4, hb3, hc3⟩ := hr2 (by omega)
            injection e4 with e4
            injection e4 with e5 e6
            subst e5 e6
            have hgk := hc3 k _ (List.getElem?_eq_getElem (by omega))
            have p1 := hgk 0 (by omega)
            have p2 := hgk 1 (by omega)
            have p3 := hgk 2 (by omega)
            generalize ((L.take k).map liftK ++ List.replicate (n - k) K0)[k]'(by omega) = KX at *
            simp only [knL, List.getD_cons_succ, List.getD_cons_zero, Nat.add_zero, Nat.zero_add] at p1 p2 p3
            have hor : w6.ownsRow w.heap.size 39 3 (.slice (some ⟨q, 0, none⟩) n n) n (cellsG knL ((L.take k).map liftK ++ List.replicate (n - k) K0)) := by
              have hx := hO
              unfold OwnK OwnG at hx
              rw [hol] at hx
              exact hx
            have f1 := World.ownsRow.frozenAt hor (k * 3)
            have f2 := World.ownsRow.frozenAt hor (k * 3 + 1)
            have f3 := World.ownsRow.frozenAt hor (k * 3 + 2)
            clear hor hgk hc3 hr2
            go_upto_region 11 with fail
            have hnext : Hid (∀ (t : Nat) K, t < k + 1 → L[t]? = some K → inUnit K) := Lib.hid (fun t K ht hK => by
              by_cases e : t = k
              · subst e
                rw [HKL.out] at hK
                injection hK with hK
                rw [← hK]
                exact HIN.out
              · exact HU.out t K (by omega) hK)
            have HOL := Lib.hid hol
            have HSL := Lib.hid hsl
            have HO := Lib.hid hO
            have HKP := Lib.hid hkp
            have HS := Lib.hid hS
            have HOH := Lib.hid hOh
            have HNE := Lib.hid hne
            clear hol hsl hmin hmax hO hkp hS hOh hne d1 d2 hc5 hS5 hS1 hO1 hO5 rT hz5 hz6 hNI
            go_region
            all_goals (go_wp2_with fail)
            all_goals go_roundw
            all_goals first
              | (simp [intOf]; omega)
              | (refine ⟨k + 1, by omega, by go_num, ?_, ((HKP.out.set _ _).set _ _).set _ _, ((HS.out.drew.setCell hqw _).setCell hqw _).setCell hqw _, hnext⟩; rw [← HF.out]; exact OwnK.put HO.out k _ _ _ (by rw [HOL.out]; omega))
          · have hout : ¬ allIn LL := fun ha => hin (ha L (List.mem_of_getElem? HLJ.out) _ (List.mem_of_getElem? HKL.out))
            have HOUT := Lib.hid hout
            have hd : hi2 x y > 32767 ∨ lo2 x y < -32768 := by
              unfold inUnit at hin
              simp only at hin
              unfold hi2 lo2
              split <;> split <;> omega
            clear hin hout
            by_cases h3 : hi2 x y > 32767
            · have d1 : decide ((32767 : Int) < hi2 x y) = true := by simp; omega
              go_wp2_with fail
              refine bodyPost_ret (v := .tuple #[.slice none 0 0, .int .i64 6]) (by simp only [results, Try.results28]; go_simp) rfl ?_
              exact .inr ⟨HOUT.out, rfl, hS⟩
            · have d1 : decide ((32767 : Int) < hi2 x y) = false := by simp; omega
              have d2 : decide (lo2 x y < (-32768 : Int)) = true := by simp; omega
              go_wp2_with fail
              refine bodyPost_ret (v := .tuple #[.slice none 0 0, .int .i64 6]) (by simp only [results, Try.results28]; go_simp) rfl ?_
              exact .inr ⟨HOUT.out, rfl, hS⟩
        · obtain rfl : n = k := by omega
          go_wp2_with fail
          go_roundw
          case rel =>
            have hend : OwnK wr w.heap.size (.slice (some ⟨q, 0, none⟩) n n) (L.map liftK) := by
              have e : (L.take n).map liftK ++ List.replicate (n - n) K0 = L.map liftK := by rw [HNL.out, List.take_length]; simp
              rw [← e]; exact hO
            refine ⟨j + 1, _, by omega, by go_num, by rw [List.length_set]; exact hsl, OwnG.but hOh hkp (fun e => by injection e with e; exact hbq e), hS, Lib.hid ⟨fun i x M hi h1 h2 => ?_, fun i M hi h2 => ?_⟩⟩
            · by_cases e : i = j
              · subst e
                rw [List.getElem?_set_self (by omega)] at h1
                injection h1 with h1
                rw [HLJ.out] at h2
                injection h2 with h2
                subst h1 h2
                exact hend
              · rw [List.getElem?_set_ne (fun x => e x.symm)] at h1
                obtain ⟨hk5, hx5⟩ := HR5.out.1 i x M (by omega) h1 h2
                exact OwnG.but hk5 hkp hx5
            · by_cases e : i = j
              · subst e
                rw [HLJ.out] at h2
                injection h2 with h2
                subst h2
                intro K hK
                obtain ⟨t, ht, hg⟩ := List.getElem_of_mem hK
                exact HU.out t K (by rw [HNL.out]; exact ht) (by rw [List.getElem?_eq_getElem ht, hg])
              · exact HR5.out.2 i M (by omega) h2
          case measure => simp [intOf]; omega
    · obtain rfl : N = j := by omega
      have hall : allIn LL := fun L hL => by
        obtain ⟨i, hi, hg⟩ := List.getElem_of_mem hL
        exact HK.out.2 i L (by rw [HN.out]; exact hi) (by rw [List.getElem?_eq_getElem hi, hg])
      have HALL := Lib.hid hall
      clear hall
      go_wp2_with fail
      refine bodyPost_ret (v := .tuple #[.slice (some ⟨hb0, 0, none⟩) N N, .int .i64 0]) (by simp only [results, Try.results28]; go_simp) rfl ?_
      refine .inl ⟨HALL.out, _, w.heap.size, rfl, Nat.le_refl _, ⟨hs, by rw [List.length_map, hsl]; exact HN.out, hO, fun i x M h1 h2 => ?_⟩, hS⟩
      rw [List.getElem?_map] at h2
      cases hg : LL[i]? with
      | none => rw [hg] at h2; cases h2
      | some L =>
        rw [hg] at h2
        simp only [Option.map_some, Option.some.injEq] at h2
        subst h2
        have hi : i < LL.length := by
          rcases Nat.lt_or_ge i LL.length with h | h
          · exact h
          · rw [List.getElem?_eq_none h] at hg; cases hg
        exact HK.out.1 i x L (by rw [HN.out]; exact hi) h1 hg
end Go.Proofs.Ytdbenpncnkfliaa

/-
  The reference's 'Copy' of outlines, walked.
-/
namespace Go.Proofs.Ytdbenpncnkfliaa
open Go.RowKit Go.ChangeShapes Go.WideShapes Go.Deep
set_option linter.unusedVariables false

theorem hd_one (w : World) (b : Nat) (hb : b = w.heap.size) (ty : TypeId) (h : Hd) : RdG 1 hdL (w.alloc (.cells #[.slice h.A h.n h.c] ty)) (w.alloc (.cells #[.slice h.A h.n h.c] ty)).heap.size (some ⟨b, 0, none⟩) [h] :=
  rdG_one hb h (fun i hi => by
    obtain rfl : i = 0 := by omega
    rfl)
/-- append of one contour to an outline's own headers. -/
theorem wpList_append_hd {w : World} {ops : Array Oper} {rest : List Oper} {o : Oper} {a : Act} {Q : Exit → Act → World → Prop} (hgd : o.guard = none) (s x : Operand)
    (ho : o.op = .call { callee := .builtin .append, args := #[s, x], argTypes := #[30, 30] })
    (base : Nat) (v : Value) (LL : List (List Kt)) (hs : a.eval s = v) (hown : OwnO w base v LL) (b c : Nat) (A' : Option Addr) (n' c' : Nat) (L : List Kt) (hx : a.eval x = .slice (some ⟨b, 0, none⟩) 1 c) (ty : TypeId) (hb : b = w.heap.size) (hrow : OwnK w base (.slice A' n' c') L) (hL : LL.length ≤ 1000000) (hbase : base ≤ w.heap.size)
    (h : ∀ v' w', OwnO w' base v' (LL ++ [L]) → (w.alloc (.cells #[.slice A' n' c'] ty)).grownBy w' v.ownBlock → (∀ q, v.ownBlock = some q → base ≤ q ∧ q < w.heap.size) → wpList Try.prog ops Q rest (a.put o.dst v') w') :
    wpList Try.prog ops Q (o :: rest) a (w.alloc (.cells #[.slice A' n' c'] ty)) := by
  obtain ⟨hh, hl, ho', hK⟩ := hown
  refine wpList_append_g hgd s x 30 23 ho (by omega) hdL_len hdL_one 24 Try.underlying30 infoCt base v hh hs (ho'.alloc _) _ _ c [⟨A', n', c'⟩] hx (hd_one w b hb ty ⟨A', n', c'⟩) (by simp only [List.length_cons, List.length_nil]; omega) (by simp only [List.length_cons, List.length_nil, maxLen]; omega) (by simp; omega) (fun v' w' h9 hg hq => h v' w' ?_ hg (fun q e => ho'.lt e))
  exact OwnO.snoc (w := w.alloc (.cells #[.slice A' n' c'] ty)) ⟨hh, hl, ho'.alloc _, fun j x M h1 h2 => (hK j x M h1 h2).alloc _⟩ (hrow.alloc _) hl (ho'.alloc _) (fun j x M h1 h2 => (hK j x M h1 h2).alloc _) h9 hg
set_option maxRecDepth 100000 in
set_option maxHeartbeats 8000000 in
theorem rf_copy (A : Option Addr) (c : Nat) (LL : List (List Kt)) (w : World) (h : RdOL w w.heap.size A LL) (hn : LL.length ≤ 1000000) (hm : ∀ L, L ∈ LL → L.length ≤ 1000000) :
    Calls Try.prog 22 #[.slice A LL.length c] w fun e w' => ∃ A' c', e = .returned (.slice A' LL.length c') ∧ RdOL w' w'.heap.size A' LL ∧ Since w w' := by
  obtain ⟨N, hN⟩ : ∃ N, N = LL.length := ⟨_, rfl⟩
  rw [← hN] at hn ⊢
  have HN := Lib.hid hN
  have HM := Lib.hid hm
  clear hN hm
  go_enter Try.func22, Try.ntmps22
  go_wp2_with fail
  go_loopw [3, 8] (fun v y wr => ∃ (j : Nat), j ≤ N ∧ y = .int .i64 (j : Int) ∧ OwnO wr w.heap.size v (LL.take j) ∧ Since w wr) (fun _ y _ => N - (intOf y).toNat)
  case atStart => exact ⟨0, by omega, rfl, OwnO.nil _ _, Since.refl _⟩
  case round =>
    obtain ⟨j, hj, rfl, hO, hS⟩ := hrel
    by_cases hjn : j < N
    · have hjn' : (j : Int) < N := by omega
      have hjL : j < LL.length := by rw [← HN.out]; exact hjn
      have hL : LL[j]? = some LL[j] := List.getElem?_eq_getElem hjL
      have hml := HM.out _ (List.mem_of_getElem? hL)
      have htk : LL.take (j + 1) = LL.take j ++ [LL[j]] := List.take_succ_eq_append_getElem hjL
      have HTK := Lib.hid htk
      have hlt : (LL.take j).length ≤ 1000000 := by rw [List.length_take]; omega
      clear htk
      generalize LL[j] = L at *
      obtain ⟨b, o, A', c', rfl, hb, hcell, hK⟩ := h.row hL
      have c1 := (hS.1 _ _ hb).trans hcell
      have hbw := hS.2.2.1 _ hb
      have hK := (hK.since (Nat.le_refl _) hS).more hS.below.size
      have hwz := hS.below.size
      clear hL h hcell hjL
      generalize LL.take j = LJ at *
      go_wp2_with (first | (at_builtin; refine wpList_append_g rfl (.tmp 13) (.tmp 14) 23 39 rfl (by omega) knL_len knL_one 24 Try.underlying23 infoKn w.heap.size _ [] rfl (OwnG.empty _ wr w.heap.size _ rfl hwz) _ A' c' L rfl (hK.on ((Since.refl wr).alloc _)) ?_ ?_ ?_ ?_; (focus (rw [List.length_nil]; omega)); (focus (rw [List.length_nil]; simp only [maxLen]; omega)); (focus (simp; omega)); intro v7 w7 hO7 hg7 hb7; have hS7 : Since wr w7 := (since_grown ((Since.refl wr).alloc _) hg7 (fun q hq => Nat.le_of_eq (Option.some.inj hq))); rw [List.nil_append] at hO7; obtain ⟨A7, c7, rfl, hc7, hr7⟩ := hO7.rd (by omega) knL_len; have hOO := hO.since hS7; have hwz7 := hS7.below.size; clear hr7 hg7 hb7) | (at_builtin; refine wpList_append_hd rfl _ _ rfl w.heap.size _ LJ rfl hOO _ 1 A7 L.length c7 L rfl _ rfl hO7 hlt (by omega) ?_; intro v8 w8 hO8 hg8 hb8; have hS8 : Since w w8 := (since_grown ((hS.trans hS7).alloc _) hg8 (fun q hq => (hb8 q hq).1))))
      go_roundw
      case rel => exact ⟨j + 1, by omega, by go_num, by rw [HTK.out]; exact hO8, hS8⟩
      case measure => simp [intOf]; omega
    · obtain rfl : N = j := by omega
      have e : LL.take N = LL := by rw [HN.out]; exact List.take_length
      rw [e] at hO
      obtain ⟨A', c', rfl, hc', hr⟩ := hO.rd
      rw [← HN.out]
      go_wp2_with fail
      go_ret
      exact ⟨A', c', rfl, hr, hS⟩
end Go.Proofs.Ytdbenpncnkfliaa

/-
  Layer 11: the reference's 'Lift', walked.
-/
namespace Go.Proofs.Ytdbenpncnkfliaa
open Go.RowKit Go.ChangeShapes Go.WideShapes Go.Deep
set_option linter.unusedVariables false

theorem OwnG.lower {α : Type} {enc : α → List Value} {t : TypeId} {k base base' : Nat} {w : World} {v : Value} {L : List α} (h : OwnG t k enc w base v L) (hb : base' ≤ base) : OwnG t k enc w base' v L := by
  refine ⟨h.1, ?_⟩
  rcases h.2 with h0 | ⟨g, cap, cur, e1, hb', r⟩
  · exact .inl h0
  · exact .inr ⟨g, cap, cur, e1, by omega, r⟩
/-- What the reference's 'Lift' answers. -/
def RfLift (w : World) (LL : List (List Kt)) (e : Ending) (w' : World) : Prop :=
  (allIn LL ∧ ∃ A c, e = .returned (.tuple #[.slice A LL.length c, .int .i64 0]) ∧ RdOL w' w'.heap.size A (LL.map (List.map liftK)) ∧ Since w w') ∨ (¬ allIn LL ∧ e = .returned (.tuple #[.slice none 0 0, .int .i64 6]) ∧ Since w w')
set_option maxRecDepth 1000000 in
set_option maxHeartbeats 32000000 in
theorem rf_lift (A : Option Addr) (c : Nat) (LL : List (List Kt)) (w : World) (h : RdOL w w.heap.size A LL) (hn : LL.length ≤ 1000000) (hm : ∀ L, L ∈ LL → L.length ≤ 1000000) :
    Calls Try.prog 29 #[.slice A LL.length c] w (RfLift w LL) := by
  obtain ⟨N, hN⟩ : ∃ N, N = LL.length := ⟨_, rfl⟩
  rw [← hN] at hn ⊢
  have HN := Lib.hid hN
  have HM := Lib.hid hm
  clear hN hm
  go_enter Try.func29, Try.ntmps29
  go_wp2_with fail
  go_loopw [4, 12] (fun v y wr => ∃ (j : Nat), j ≤ N ∧ y = .int .i64 (j : Int) ∧ OwnO wr w.heap.size v ((LL.take j).map (List.map liftK)) ∧ Since w wr ∧ Hid (∀ (i : Nat) L, i < j → LL[i]? = some L → ∀ k, k ∈ L → inUnit k)) (fun _ y _ => N - (intOf y).toNat)
  case atStart => exact ⟨0, by omega, rfl, OwnO.nil _ _, Since.refl _, Lib.hid (fun i L hi => absurd hi (by omega))⟩
  case round =>
    obtain ⟨j, hj, rfl, hO, hS, HK⟩ := hrel
    by_cases hjn : j < N
    · have hjn' : (j : Int) < N := by omega
      have hjL : j < LL.length := by rw [← HN.out]; exact hjn
      have hL : LL[j]? = some LL[j] := List.getElem?_eq_getElem hjL
      have hml := HM.out _ (List.mem_of_getElem? hL)
      have htk : (LL.take (j + 1)).map (List.map liftK) = (LL.take j).map (List.map liftK) ++ [LL[j].map liftK] := by rw [List.take_succ_eq_append_getElem hjL, List.map_append]; rfl
      have HTK := Lib.hid htk
      have hlt : ((LL.take j).map (List.map liftK)).length ≤ 1000000 := by rw [List.length_map, List.length_take]; omega
      have HLJ := Lib.hid hL
      clear htk
      generalize LL[j] = L at *
      obtain ⟨b, o, A', c', rfl, hb, hcell, hK⟩ := h.row hL
      have c1 := (hS.1 _ _ hb).trans hcell
      have hbw1 := hS.2.2.1 _ hb
      have hwz := hS.below.size
      obtain ⟨n, hnl⟩ : ∃ n, n = L.length := ⟨_, rfl⟩
      rw [← hnl] at hml c1
      have HNL := Lib.hid hnl
      have HLT := Lib.hid hlt
      clear hL h hcell hjL hnl hlt
      generalize (LL.take j).map (List.map liftK) = LJ at *
      obtain ⟨bs, hbs⟩ : ∃ bs, bs = wr.heap.size := ⟨_, rfl⟩
      have hbs1 : wr.heap.size ≤ bs := by omega
      have hbs2 : bs ≤ wr.heap.size := by omega
      clear hbs
      go_wp2_with fail
      go_loopw [7, 18] (fun v y wr' => ∃ k : Nat, k ≤ n ∧ y = .int .i64 (k : Int) ∧ OwnK wr' bs v ((L.take k).map liftK) ∧ Since wr wr' ∧ Hid (∀ (t : Nat) K, t < k → L[t]? = some K → inUnit K)) (fun _ y _ => n - (intOf y).toNat)
      case atStart => exact ⟨0, by omega, rfl, OwnG.nil _ _ _ _ _, Since.refl _, Lib.hid (fun t K ht => absurd ht (by omega))⟩
      case round =>
        obtain ⟨k, hk, rfl, hOk, hSr, HU⟩ := hrel
        by_cases hkn : k < n
        · have hkn' : (k : Int) < n := by omega
          have hkl : k < L.length := by rw [← HNL.out]; exact hkn
          have hkL : L[k]? = some L[k] := List.getElem?_eq_getElem hkl
          have hfill : (L.take (k + 1)).map liftK = (L.take k).map liftK ++ [liftK L[k]] := by rw [List.take_succ_eq_append_getElem hkl, List.map_append]; rfl
          have hol : ((L.take k).map liftK).length ≤ 1000000 := by rw [List.length_map, List.length_take]; omega
          obtain ⟨bk, ok, rfl, hbk, hck⟩ := hK (by omega)
          have hSw := hS.trans hSr
          have c1 := (hSw.1 _ _ hbk).trans (hck k _ hkL 0 (by omega))
          have c2 := (hSw.1 _ _ hbk).trans (hck k _ hkL 1 (by omega))
          have c3 := (hSw.1 _ _ hbk).trans (hck k _ hkL 2 (by omega))
          have hbw2 := hSw.2.2.1 _ hbk
          have HF := Lib.hid hfill
          have HKL := Lib.hid hkL
          have HOL := Lib.hid hol
          clear hfill hkL hck hK hol
          generalize L[k] = K at *
          obtain ⟨x, y, o⟩ := K
          simp only [knL, List.getD_cons_succ, List.getD_cons_zero, Nat.add_zero] at c1 c2 c3
          go_upto_region 9 with fail
          refine wp_named fun w6 hw6 => ?_
          have rT : Row w6 (wr.heap.size) 3 (Kf x y o) := by subst hw6; exact krow wr _ rfl _ _ _ _
          have hS6 : Since wr w6 := by subst hw6; (repeat (first | with_reducible (exact Since.refl _) | with_reducible assumption | with_reducible (refine Since.drew ?_) | with_reducible (refine Since.drewN ?_ _) | with_reducible (refine Since.alloc ?_ _) | (with_reducible (refine Since.setCell ?_ ?_ _); rotate_left; focus (first | (simp; done) | (simp; omega) | omega)) | (with_reducible (refine Since.trans ?_ (by with_reducible assumption)))))
          clear hw6 c1 c2 c3 hbw2
          have hbz : bs ≤ w6.heap.size := Nat.le_trans hbs2 (Nat.le_trans hSr.below.size hS6.below.size)
          have hOk := OwnG.since hOk hS6
          have hSr := hSr.trans hS6
          generalize wr.heap.size = tb at *
          obtain ⟨t1, t2, t3, t4⟩ := kcells rT
          by_cases hin : inUnit ⟨x, y, o⟩
          · obtain ⟨v1, v2, v3, v4⟩ := hin
            simp only at v1 v2 v3 v4
            have d1 : decide (x < (-32768 : Int)) = false := by simp; omega
            have d2 : decide ((32767 : Int) < x) = false := by simp; omega
            have d3 : decide (y < (-32768 : Int)) = false := by simp; omega
            have d4 : decide ((32767 : Int) < y) = false := by simp; omega
            have u1 : IntKind.i64.wrap (64 * x) = 64 * x := IntWalk.i64_in _ (by omega)
            have u2 : IntKind.i64.wrap (64 * y) = 64 * y := IntWalk.i64_in _ (by omega)
            have hnext : Hid (∀ (t : Nat) K, t < k + 1 → L[t]? = some K → inUnit K) := Lib.hid (fun t K ht hK => by
              by_cases e : t = k
              · subst e
                rw [HKL.out] at hK
                injection hK with hK
                rw [← hK]
                exact ⟨v1, v2, v3, v4⟩
              · exact HU.out t K (by omega) hK)
            clear v1 v2 v3 v4
            go_wp2_with (at_builtin; refine wpList_append_g rfl _ _ 23 39 rfl (by omega) knL_len knL_one 24 Try.underlying23 infoKn bs _ _ rfl (OwnG.alloc hOk _) _ _ 1 [⟨64 * x, 64 * y, o⟩] rfl (kn_one w6 _ rfl _ ⟨64 * x, 64 * y, o⟩) ?_ ?_ ?_ ?_; (focus (have := HOL.out; simp only [List.length_cons, List.length_nil]; omega)); (focus (have := HOL.out; simp only [List.length_cons, List.length_nil, maxLen]; omega)); (focus (simp; omega)); intro v7 w7 hO7 hg7 hb7)
            go_roundw
            case rel => exact ⟨k + 1, by omega, by go_num, by rw [HF.out]; exact hO7, since_grown (hSr.alloc _) hg7 (fun q hq => Nat.le_trans hbs1 (hb7 q hq).1), hnext⟩
            case measure => simp [intOf]; omega
          · have hout : ¬ allIn LL := fun ha => hin (ha L (List.mem_of_getElem? HLJ.out) _ (List.mem_of_getElem? HKL.out))
            have HOUT := Lib.hid hout
            have hd : x < -32768 ∨ 32767 < x ∨ y < -32768 ∨ 32767 < y := by
              unfold inUnit at hin
              simp only at hin
              omega
            clear hin hout
            by_cases h1 : x < -32768
            · have d1 : decide (x < (-32768 : Int)) = true := by simp; omega
              go_wp2_with fail
              refine bodyPost_ret (v := .tuple #[.slice none 0 0, .int .i64 6]) (by simp only [results, Try.results29]; go_simp) rfl ?_
              exact .inr ⟨HOUT.out, rfl, hS.trans hSr⟩
            · have d1 : decide (x < (-32768 : Int)) = false := by simp; omega
              by_cases h2 : 32767 < x
              · have d2 : decide ((32767 : Int) < x) = true := by simp; omega
                go_wp2_with fail
                refine bodyPost_ret (v := .tuple #[.slice none 0 0, .int .i64 6]) (by simp only [results, Try.results29]; go_simp) rfl ?_
                exact .inr ⟨HOUT.out, rfl, hS.trans hSr⟩
              · have d2 : decide ((32767 : Int) < x) = false := by simp; omega
                by_cases h3 : y < -32768
                · have d3 : decide (y < (-32768 : Int)) = true := by simp; omega
                  go_wp2_with fail
                  refine bodyPost_ret (v := .tuple #[.slice none 0 0, .int .i64 6]) (by simp only [results, Try.results29]; go_simp) rfl ?_
                  exact .inr ⟨HOUT.out, rfl, hS.trans hSr⟩
                · have d3 : decide (y < (-32768 : Int)) = false := by simp; omega
                  have d4 : decide ((32767 : Int) < y) = true := by simp; omega
                  go_wp2_with fail
                  refine bodyPost_ret (v := .tuple #[.slice none 0 0, .int .i64 6]) (by simp only [results, Try.results29]; go_simp) rfl ?_
                  exact .inr ⟨HOUT.out, rfl, hS.trans hSr⟩
        · obtain rfl : n = k := by omega
          have e : (L.take n).map liftK = L.map liftK := by rw [HNL.out, List.take_length]
          rw [e] at hOk
          have hOO := hO.since hSr
          have hall : Hid (∀ (i : Nat) M, i < j + 1 → LL[i]? = some M → ∀ k, k ∈ M → inUnit k) := Lib.hid (fun i M hi h2 => by
            by_cases e : i = j
            · subst e
              rw [HLJ.out] at h2
              injection h2 with h2
              subst h2
              intro K hK
              obtain ⟨t, ht, hg⟩ := List.getElem_of_mem hK
              exact HU.out t K (by rw [HNL.out]; exact ht) (by rw [List.getElem?_eq_getElem ht, hg])
            · exact HK.out i M (by omega) h2)
          have hz8 : w.heap.size ≤ wr.heap.size := (hS.trans hSr).below.size
          have hlow : w.heap.size ≤ bs := by omega
          obtain ⟨A7, c7, rfl, _, _⟩ := OwnG.rd (by omega) knL_len hOk
          rw [List.length_map] at hOk ⊢
          go_wp2_with (at_builtin; refine wpList_append_hd rfl _ _ rfl w.heap.size _ LJ rfl hOO _ 1 A7 L.length c7 (L.map liftK) rfl _ rfl (OwnG.lower hOk hlow) HLT.out hz8 ?_; intro v8 w8 hO8 hg8 hb8; have hS8 : Since w w8 := (since_grown ((hS.trans hSr).alloc _) hg8 (fun q hq => (hb8 q hq).1)))
          go_roundw
          case rel => exact ⟨j + 1, by omega, by go_num, by rw [HTK.out]; exact hO8, hS8, hall⟩
          case measure => simp [intOf]; omega
    · obtain rfl : N = j := by omega
      have hall : allIn LL := fun L hL => by
        obtain ⟨i, hi, hg⟩ := List.getElem_of_mem hL
        exact HK.out i L (by rw [HN.out]; exact hi) (by rw [List.getElem?_eq_getElem hi, hg])
      have HALL := Lib.hid hall
      have e : LL.take N = LL := by rw [HN.out]; exact List.take_length
      rw [e] at hO
      obtain ⟨A', c', rfl, hc', hr⟩ := hO.rd
      rw [List.length_map, ← HN.out]
      clear hall
      go_wp2_with fail
      refine bodyPost_ret (v := .tuple #[.slice A' N c', .int .i64 0]) (by simp only [results, Try.results29]; go_simp) rfl ?_
      exact .inl ⟨HALL.out, A', c', by rw [← HN.out], hr, hS⟩
end Go.Proofs.Ytdbenpncnkfliaa

/-
  The reference's 'Great' and 'Copy' of outlines, walked.
-/
namespace Go.Proofs.Ytdbenpncnkfliaa
open Go.RowKit Go.ChangeShapes Go.WideShapes Go.Deep
set_option linter.unusedVariables false

def sumL (LL : List (List Kt)) : Nat := (LL.map List.length).sum
theorem sum_take {LL : List (List Kt)} {j : Nat} {L : List Kt} (hj : LL[j]? = some L) : sumL (LL.take (j + 1)) = sumL (LL.take j) + L.length := by
  have hjl : j < LL.length := by
    rcases Nat.lt_or_ge j LL.length with h | h
    · exact h
    · rw [List.getElem?_eq_none h] at hj; cases hj
  have e : LL[j] = L := by rw [List.getElem?_eq_getElem hjl] at hj; injection hj
  unfold sumL
  rw [List.take_succ_eq_append_getElem hjl, List.map_append, List.sum_append, e]
  simp
/-- What isn't great. -/
def NotGreat (LL : List (List Kt)) : Prop := LL.length ≤ 600 ∧ (∀ L, L ∈ LL → L.length ≤ 5000) ∧ sumL LL ≤ 9000
def GreatOut (w : World) (LL : List (List Kt)) (e : Ending) (w' : World) : Prop := ∃ g : Bool, e = .returned (.bool g) ∧ (g = false → NotGreat LL) ∧ Since w w'
set_option maxRecDepth 100000 in
set_option maxHeartbeats 8000000 in
theorem rf_great (A : Option Addr) (c : Nat) (LL : List (List Kt)) (w : World) (h : RdOL w w.heap.size A LL) (hn : LL.length ≤ maxLen) (hm : ∀ L, L ∈ LL → L.length ≤ maxLen) :
    Calls Try.prog 21 #[.slice A LL.length c] w (GreatOut w LL) := by
  obtain ⟨N, hN⟩ : ∃ N, N = LL.length := ⟨_, rfl⟩
  rw [← hN] at hn ⊢
  have HN := Lib.hid hN
  have HM := Lib.hid hm
  clear hN hm
  have hn' : (N : Int) ≤ 9223372036854775807 := by simp only [maxLen] at hn; omega
  by_cases h6 : N ≤ 600
  · have d1 : decide ((600 : Int) < (N : Int)) = false := by simp; omega
    have d2 : ¬ (600 : Int) < (N : Int) := by omega
    go_enter Try.func21, Try.ntmps21
    go_wp2_with fail
    go_loopw [3, 11] (fun v y wr => ∃ (j : Nat), j ≤ N ∧ y = .int .i64 (j : Int) ∧ v = .int .i64 ((sumL (LL.take j) : Nat) : Int) ∧ sumL (LL.take j) ≤ 5000 * j ∧ Hid (∀ i L, i < j → LL[i]? = some L → L.length ≤ 5000) ∧ Since w wr) (fun _ y _ => N - (intOf y).toNat)
    case atStart => exact ⟨0, by omega, rfl, rfl, by simp [sumL], Lib.hid (fun i L hi => absurd hi (by omega)), Since.refl _⟩
    case round =>
      obtain ⟨j, hj, rfl, rfl, hs, HL, hS⟩ := hrel
      by_cases hjn : j < N
      · have hjn' : (j : Int) < N := by omega
        have hL : LL[j]? = some (LL[j]'(by rw [← HN.out]; exact hjn)) := List.getElem?_eq_getElem _
        have hml := HM.out _ (List.mem_of_getElem? hL)
        generalize (LL[j]'(by rw [← HN.out]; exact hjn)) = L at *
        obtain ⟨b, o, A', c', rfl, hb, hcell, hK⟩ := h.row hL
        have hst := sum_take hL
        have HLJ := Lib.hid hL
        have HST := Lib.hid hst
        have c1 := (hS.1 _ _ hb).trans hcell
        have hbw := hS.2.2.1 _ hb
        have hlm : (L.length : Int) ≤ 9223372036854775807 := by simp only [maxLen] at hml; omega
        generalize hll : L.length = n at *
        generalize sumL (LL.take j) = S at *
        have u1 : IntKind.i64.wrap ((S : Int) + (n : Int)) = (S : Int) + (n : Int) ∨ 5000 < n := by
          by_cases h5 : 5000 < n
          · exact .inr h5
          · exact .inl (IntWalk.i64_in _ (by omega))
        clear hL hst h hcell hK
        by_cases h5 : n ≤ 5000
        · have d3 : decide ((5000 : Int) < (n : Int)) = false := by simp; omega
          have d4 : ¬ (5000 : Int) < (n : Int) := by omega
          have u1 : IntKind.i64.wrap ((S : Int) + (n : Int)) = (S : Int) + (n : Int) := IntWalk.i64_in _ (by omega)
          go_wp2_with fail
          go_roundw
          case rel =>
            refine ⟨j + 1, by omega, by go_num, by rw [HST.out]; go_num, by rw [HST.out]; omega, Lib.hid (fun i M hi hM => ?_), hS⟩
            by_cases e : i = j
            · subst e
              rw [HLJ.out] at hM
              injection hM with hM
              subst hM
              omega
            · exact HL.out i M (by omega) hM
          case measure => simp [intOf]; omega
        · have d3 : decide ((5000 : Int) < (n : Int)) = true := by simp; omega
          have d4 : (5000 : Int) < (n : Int) := by omega
          go_wp2_with fail
          go_ret
          exact ⟨true, rfl, by simp, hS⟩
      · obtain rfl : N = j := by omega
        have e : LL.take N = LL := by rw [HN.out]; exact List.take_length
        rw [e] at hs ⊢
        have HE : Hid (∀ L, L ∈ LL → L.length ≤ 5000) := Lib.hid (fun L hL => by
          obtain ⟨i, hi, hg⟩ := List.getElem_of_mem hL
          exact HL.out i L (by rw [HN.out]; exact hi) (by rw [List.getElem?_eq_getElem hi, hg]))
        obtain ⟨S, hS0⟩ : ∃ S, S = sumL LL := ⟨_, rfl⟩
        rw [← hS0] at hs ⊢
        have HS0 := Lib.hid hS0
        clear hS0 e
        by_cases h9 : S ≤ 9000
        · have d3 : decide ((9000 : Int) < (S : Int)) = false := by simp; omega
          have d4 : ¬ (9000 : Int) < (S : Int) := by omega
          go_wp2_with fail
          go_ret
          exact ⟨false, rfl, fun _ => ⟨by rw [← HN.out]; exact h6, HE.out, by rw [← HS0.out]; exact h9⟩, hS⟩
        · have d3 : decide ((9000 : Int) < (S : Int)) = true := by simp; omega
          have d4 : (9000 : Int) < (S : Int) := by omega
          go_wp2_with fail
          go_ret
          exact ⟨true, rfl, by simp, hS⟩
  · have d1 : decide ((600 : Int) < (N : Int)) = true := by simp; omega
    have d2 : (600 : Int) < (N : Int) := by omega
    go_enter Try.func21, Try.ntmps21
    go_wp2_with fail
    go_ret
    exact ⟨true, rfl, by simp, by (repeat (first | with_reducible (exact Since.refl _) | with_reducible assumption | with_reducible (refine Since.drew ?_) | with_reducible (refine Since.drewN ?_ _) | with_reducible (refine Since.alloc ?_ _) | (with_reducible (refine Since.setCell ?_ ?_ _); rotate_left; focus (first | (simp; done) | (simp; omega) | omega)) | (with_reducible (refine Since.trans ?_ (by with_reducible assumption)))))⟩
end Go.Proofs.Ytdbenpncnkfliaa

/-
  Layer 11: the law OutlineLifts, walked.
-/
namespace Go.Proofs.Ytdbenpncnkfliaa
open Go.RowKit Go.ChangeShapes Go.WideShapes Go.Deep
set_option linter.unusedVariables false

theorem cellsK_setX : ∀ (L : List Kt) (i : Nat) (x : Int), ∃ M : List Kt, M.length = L.length ∧ (cellsG knL L).set (i * 3) (.int .i64 x) = cellsG knL M
  | [], i, x => ⟨[], rfl, by simp [cellsG]⟩
  | k :: L, 0, x => ⟨⟨x, k.y, k.o⟩ :: L, rfl, by simp [cellsG, knL]⟩
  | k :: L, i + 1, x => by
    obtain ⟨M, h1, h2⟩ := cellsK_setX L i x
    refine ⟨k :: M, by simp [h1], ?_⟩
    have e0 : cellsG knL (k :: L) = knL k ++ cellsG knL L := by simp [cellsG]
    have e1 : cellsG knL (k :: M) = knL k ++ cellsG knL M := by simp [cellsG]
    have el : (knL k).length = 3 := rfl
    rw [e0, e1, ← h2, show (i + 1) * 3 = (knL k).length + i * 3 by rw [el]; omega, set_app]
/-- An outline that a call has made, whatever its knots are by now. -/
def WrO (w : World) (base : Nat) (v : Value) (LL : List (List Kt)) : Prop :=
  ∃ hs : List Hd, hs.length = LL.length ∧ OwnG 23 1 hdL w base v hs ∧ ∀ (j : Nat) h L, hs[j]? = some h → LL[j]? = some L → ∃ M, M.length = L.length ∧ OwnK w base (.slice h.A h.n h.c) M
theorem OwnO.wr {w : World} {base : Nat} {v : Value} {LL : List (List Kt)} (h : OwnO w base v LL) : WrO w base v LL := by
  obtain ⟨hs, hl, ho, hK⟩ := h
  exact ⟨hs, hl, ho, fun j x L h1 h2 => ⟨L, rfl, hK j x L h1 h2⟩⟩
theorem WrO.since {w w' : World} {base : Nat} {v : Value} {LL : List (List Kt)} (h : WrO w base v LL) (k : Since w w') : WrO w' base v LL := by
  obtain ⟨hs, hl, ho, hK⟩ := h
  refine ⟨hs, hl, ho.since k, fun j x L h1 h2 => ?_⟩
  obtain ⟨M, e, hM⟩ := hK j x L h1 h2
  exact ⟨M, e, OwnG.since hM k⟩
theorem own_setX {w : World} {base q : Nat} {v : Value} {L : List Kt} (h : OwnK w base v L) (hq : v.ownBlock = some q) (i : Nat) (x : Int) : ∃ M, M.length = L.length ∧ OwnK (w.setCell ⟨q, i * 3, none⟩ (.int .i64 x)) base v M := by
  obtain ⟨A, c, rfl, _, _⟩ := OwnG.rd (by omega) knL_len h
  obtain ⟨M, h1, h2⟩ := cellsK_setX L i x
  rcases h.2 with ⟨h0, _⟩ | ⟨g, cap, cur, h0, _⟩
  · injection h0 with h0
    subst h0
    cases hq
  · injection h0 with h0
    subst h0
    have e : g = q := by injection hq
    subst e
    have h3 := (World.ownsRow.stored h (i * 3) (.int .i64 x)).1
    rw [h2] at h3
    refine ⟨M, h1, ?_⟩
    unfold OwnK OwnG
    rw [h1]
    exact h3
theorem WrO.put {w : World} {base q : Nat} {v vr : Value} {LL : List (List Kt)} {R : List Kt} (h : WrO w base v LL) (hr : OwnK w base vr R) (hq : vr.ownBlock = some q) (i : Nat) (x : Int) : WrO (w.setCell ⟨q, i * 3, none⟩ (.int .i64 x)) base v LL := by
  obtain ⟨hs, hl, ho, hK⟩ := h
  have hne : 39 ≠ 23 := by decide
  have hkb : KeepBut q w (w.setCell ⟨q, i * 3, none⟩ (.int .i64 x)) := (KeepBut.refl q w).set _ _
  refine ⟨hs, hl, OwnG.but ho hkb (own_apart hr ho hne hq), fun j y L h1 h2 => ?_⟩
  obtain ⟨M, e, hM⟩ := hK j y L h1 h2
  by_cases hb : (Value.slice y.A y.n y.c).ownBlock = some q
  · obtain ⟨M', e', hM'⟩ := own_setX hM hb i x
    exact ⟨M', e'.trans e, hM'⟩
  · exact ⟨M, e, OwnG.but hM hkb hb⟩
/-- A contour of it: its header's cell, and a knot's first cell. -/
theorem WrO.row {w : World} {base : Nat} {v : Value} {LL : List (List Kt)} (h : WrO w base v LL) {j : Nat} {L : List Kt} (hj : LL[j]? = some L) : ∃ g c A' c', v = .slice (some ⟨g, 0, none⟩) LL.length c ∧ g < w.heap.size ∧ w.cell? ⟨g, j, none⟩ = some (.slice A' L.length c') ∧
    ∀ i, i < L.length → ∃ q x M, A' = some ⟨q, 0, none⟩ ∧ base ≤ q ∧ q < w.heap.size ∧ g ≠ q ∧ w.cell? ⟨q, i * 3, none⟩ = some (.int .i64 x) ∧ w.frozen? ⟨q, i * 3, none⟩ = false ∧ OwnK w base (.slice A' L.length c') M := by
  obtain ⟨hs, hl, ho, hK⟩ := h
  have hne : 23 ≠ 39 := by decide
  have hjl : j < LL.length := by
    rcases Nat.lt_or_ge j LL.length with h | h
    · exact h
    · rw [List.getElem?_eq_none h] at hj; cases hj
  have h1 : hs[j]? = some hs[j] := List.getElem?_eq_getElem (by omega)
  obtain ⟨M, e, hM⟩ := hK j _ L h1 hj
  generalize hs[j] = x at *
  obtain ⟨A, c, rfl, _, hr⟩ := OwnG.rd (by omega) hdL_len ho
  rcases ho.2 with ⟨h0, h0'⟩ | ⟨g, cap, cur, h0, _⟩
  · omega
  · injection h0 with h0 h0a h0b
    subst h0
    obtain ⟨b, o, e1, hb, hc⟩ := hr (by omega)
    injection e1 with e1
    injection e1 with e1 e2
    subst e1 e2
    obtain ⟨A2, c2, e3, _, hr2⟩ := OwnG.rd (by omega) knL_len hM
    injection e3 with e3 e4 e5
    have h3 := hc j x h1 0 (by omega)
    rw [Nat.zero_add, Nat.mul_one, Nat.add_zero] at h3
    refine ⟨g, c, x.A, x.c, by rw [hl], hb, by rw [h3, ← e, ← e4]; rfl, fun i hi => ?_⟩
    obtain ⟨q, o2, e6, hq, hc2⟩ := hr2 (by omega)
    rcases hM.2 with ⟨h7, h7'⟩ | ⟨g', cap', cur', h7, hb', _⟩
    · omega
    · injection h7 with h7 h7a h7b
      rw [e3, e6] at h7
      injection h7 with h7
      injection h7 with h7 h8
      subst h7 h8
      have h9 := hc2 i _ (List.getElem?_eq_getElem (by omega)) 0 (by omega)
      rw [Nat.zero_add, Nat.add_zero] at h9
      have hM' : OwnK w base (.slice x.A L.length x.c) M := by rw [← e, ← e4]; exact hM
      have hA : x.A = some ⟨q, 0, none⟩ := by rw [e3, e6]
      have hor : w.ownsRow base 39 3 (.slice (some ⟨q, 0, none⟩) M.length x.c) M.length (cellsG knL M) := by
        have := hM
        unfold OwnK OwnG at this
        rw [hA, e4] at this
        exact this
      refine ⟨q, M[i].x, M, hA, hb', hq, fun eg => own_apart ho hM hne (q := g) rfl (by rw [hA, eg]; rfl), h9, World.ownsRow.frozenAt hor _, hM'⟩
end Go.Proofs.Ytdbenpncnkfliaa

/-
  Layer 11: the law OutlineLifts, walked.
-/
namespace Go.Proofs.Ytdbenpncnkfliaa
open Go.RowKit Go.ChangeShapes Go.WideShapes Go.Deep
set_option linter.unusedVariables false

theorem allIn_len {LL : List (List Kt)} : (LL.map (List.map liftK)).length = LL.length := List.length_map ..
theorem lens_le {LL : List (List Kt)} {m : Nat} (h : ∀ L, L ∈ LL → L.length ≤ m) : ∀ L, L ∈ LL.map (List.map liftK) → L.length ≤ m := fun L hL => by
  rw [List.mem_map] at hL
  obtain ⟨M, hM, rfl⟩ := hL
  rw [List.length_map]
  exact h M hM
theorem ou_lift_yes (A : Option Addr) (c : Nat) (LL : List (List Kt)) (w : World) (h : RdOL w w.heap.size A LL) (hn : LL.length ≤ 1000000) (hm : ∀ L, L ∈ LL → L.length ≤ 1000000) (ha : allIn LL) :
    Calls Try.prog 28 #[.slice A LL.length c] w fun e w' => ∃ A' c' base, e = .returned (.tuple #[.slice A' LL.length c', .int .i64 0]) ∧ w.heap.size ≤ base ∧ OwnO w' base (.slice A' LL.length c') (LL.map (List.map liftK)) ∧ Since w w' := by
  refine (ou_lift A c LL w h hn hm).mono ?_
  rintro e w' (⟨_, v, base, rfl, hb, hO, hS⟩ | ⟨hno, _⟩)
  · obtain ⟨A', c', rfl, _, _⟩ := hO.rd
    rw [List.length_map] at hO ⊢
    exact ⟨A', c', base, rfl, hb, hO, hS⟩
  · exact absurd ha hno
theorem ou_lift_no (A : Option Addr) (c : Nat) (LL : List (List Kt)) (w : World) (h : RdOL w w.heap.size A LL) (hn : LL.length ≤ 1000000) (hm : ∀ L, L ∈ LL → L.length ≤ 1000000) (ha : ¬ allIn LL) :
    Calls Try.prog 28 #[.slice A LL.length c] w fun e w' => e = .returned (.tuple #[.slice none 0 0, .int .i64 6]) ∧ Since w w' := by
  refine (ou_lift A c LL w h hn hm).mono ?_
  rintro e w' (⟨h1, _⟩ | ⟨_, h2⟩)
  · exact absurd h1 ha
  · exact h2
theorem rf_lift_yes (A : Option Addr) (c : Nat) (LL : List (List Kt)) (w : World) (h : RdOL w w.heap.size A LL) (hn : LL.length ≤ 1000000) (hm : ∀ L, L ∈ LL → L.length ≤ 1000000) (ha : allIn LL) :
    Calls Try.prog 29 #[.slice A LL.length c] w fun e w' => ∃ A' c', e = .returned (.tuple #[.slice A' LL.length c', .int .i64 0]) ∧ RdOL w' w'.heap.size A' (LL.map (List.map liftK)) ∧ Since w w' := by
  refine (rf_lift A c LL w h hn hm).mono ?_
  rintro e w' (⟨_, h2⟩ | ⟨hno, _⟩)
  · exact h2
  · exact absurd ha hno
theorem rf_lift_no (A : Option Addr) (c : Nat) (LL : List (List Kt)) (w : World) (h : RdOL w w.heap.size A LL) (hn : LL.length ≤ 1000000) (hm : ∀ L, L ∈ LL → L.length ≤ 1000000) (ha : ¬ allIn LL) :
    Calls Try.prog 29 #[.slice A LL.length c] w fun e w' => e = .returned (.tuple #[.slice none 0 0, .int .i64 6]) ∧ Since w w' := by
  refine (rf_lift A c LL w h hn hm).mono ?_
  rintro e w' (⟨h1, _⟩ | ⟨_, h2⟩)
  · exact absurd h1 ha
  · exact h2
theorem rdOL_nil (w : World) (B : Nat) (A : Option Addr) : RdOL w B A [] := ⟨[], rfl, RdG.nil, fun j h L h1 h2 => by simp at h1⟩
theorem same_nil (w : World) : Calls Try.prog 18 #[.slice none 0 0, .slice none 0 0] w fun e w' => e = .returned (.bool true) ∧ Since w w' :=
  rf_sameL none none 0 0 [] w (rdOL_nil _ _ _) (rdOL_nil _ _ _) (by simp [maxLen]) (by simp)
theorem same_lift (A A' : Option Addr) (c c' : Nat) (LL : List (List Kt)) (base : Nat) (w : World) (h : OwnO w base (.slice A LL.length c) (LL.map (List.map liftK))) (h' : RdOL w w.heap.size A' (LL.map (List.map liftK))) (hn : LL.length ≤ maxLen) (hm : ∀ L, L ∈ LL → L.length ≤ maxLen) :
    Calls Try.prog 18 #[.slice A LL.length c, .slice A' LL.length c'] w fun e w' => e = .returned (.bool true) ∧ Since w w' := by
  obtain ⟨A2, c2, e, _, hr⟩ := h.rd
  injection e with e1 e2 e3
  subst e1
  have hx := rf_sameL A A' c c' (LL.map (List.map liftK)) w hr h' (by rw [List.length_map]; exact hn) (lens_le hm)
  rw [List.length_map] at hx
  exact hx
set_option maxRecDepth 1000000 in
set_option maxHeartbeats 32000000 in
theorem walk_outlinelifts (A : Option Addr) (c : Nat) (LL : List (List Kt)) (w : World) (h : RdOL w w.heap.size A LL) (hn : LL.length ≤ maxLen) (hm : ∀ L, L ∈ LL → L.length ≤ maxLen) :
    Calls Try.prog 8 #[.slice A LL.length c] w fun e w' => e = .returned (.bool true) ∧ Since w w' := by
  have hgr := fun w (h : RdOL w w.heap.size A LL) => rf_great A c LL w h hn hm
  have HG := Lib.hid hgr
  clear hgr
  go_enter Try.func8, Try.ntmps8
  go_upto_if 13 with (first | (go_at_call 14; (with_reducible refine (alive11 _).mono ?_); rintro e w1 ⟨rfl, hS1⟩; have hR1 := h.on hS1; clear h) | (go_at_call 21; (with_reducible refine (HG.out _ hR1).mono ?_); rintro e w2 ⟨g, rfl, hng, hS2⟩; have hR2 := hR1.on hS2; have hT2 := hS1.trans hS2; have HNG := Lib.hid hng; clear hng hR1 hS1 hS2))
  cases g
  · obtain ⟨n6, n5, n9⟩ := HNG.out rfl
    have n5' : ∀ L, L ∈ LL → L.length ≤ 1000000 := fun L hL => by have := n5 L hL; omega
    have N5 := Lib.hid n5'
    clear n5 n5' HNG HG hm
    have hle : ∀ L, L ∈ LL → L.length ≤ maxLen := fun L hL => by have := N5.out L hL; simp only [maxLen]; omega
    have hLE := Lib.hid hle
    clear hle
    by_cases hal : allIn LL
    · have HAL := Lib.hid hal
      have hl2 : (LL.map (List.map liftK)).length = LL.length := List.length_map ..
      have HL2 := Lib.hid hl2
      clear hal hl2
      go_upto_region 10 with (first | (go_at_call 22; (with_reducible refine (rf_copy A c LL _ hR2 (by omega) N5.out).mono ?_); rintro e w3 ⟨A3, c3, rfl, hR3, hS3⟩; have hR23 := hR2.on hS3; have hT3 := hT2.trans hS3; clear hR2 hT2) | (go_at_call 28; (with_reducible refine (ou_lift_yes A3 c3 LL _ hR3 (by omega) N5.out HAL.out).mono ?_); rintro e w4 ⟨A4, c4, base, rfl, hbase, hO4, hS4⟩; have hR34 := hR3.on hS4; have hR24 := hR23.on hS4; have hT4 := hT3.trans hS4) | (go_at_call 29; (with_reducible refine (rf_lift_yes A c LL _ hR24 (by omega) N5.out HAL.out).mono ?_); rintro e w5 ⟨A5, c5, rfl, hR5, hS5⟩; have hO5 := hO4.since hS5; have hT5 := hT4.trans hS5) | (go_at_call 18; (with_reducible refine (same_lift A4 A5 c4 c5 LL base _ hO5 hR5 hn hLE.out).mono ?_); rintro e w6 ⟨rfl, hS6⟩; have hO6 := hO5.since hS6; have hT6 : Since w3 w6 := ((hS4.trans hS5).trans hS6)))
      have hWr := hO6.wr
      clear hO4 hO5 hO6 hR34 hR24 hR5 hS4 hS5 hS6 hT4 hT5
      obtain ⟨N, hN⟩ : ∃ N, N = LL.length := ⟨_, rfl⟩
      have HN := Lib.hid hN
      rw [← hN] at hWr hn n6 ⊢
      have hNI : (N : Int) ≤ 600 := by omega
      clear hN
      have hwb : w3.heap.size ≤ base := hbase
      go_wp2_with fail
      go_loopw [37] (fun y wr => ∃ i : Nat, i ≤ N ∧ y = .int .i64 (i : Int) ∧ WrO wr base (.slice A4 N c4) (LL.map (List.map liftK)) ∧ Since w3 wr) (fun y _ => N - (intOf y).toNat)
      case atStart => exact ⟨0, by omega, rfl, hWr, hT6⟩
      case round =>
        obtain ⟨i, hi, rfl, hW, hS⟩ := hrel
        by_cases hiN : i < N
        · have hiN' : (i : Int) < N := by omega
          have hiL : i < LL.length := by rw [← HN.out]; exact hiN
          have hL : (LL.map (List.map liftK))[i]? = some (LL[i].map liftK) := by rw [List.getElem?_map, List.getElem?_eq_getElem hiL]; rfl
          have hml : (LL[i].map liftK).length ≤ 1000000 := by rw [List.length_map]; exact N5.out _ (List.getElem_mem hiL)
          have HL := Lib.hid hL
          generalize LL[i].map liftK = L at *
          clear hL hiL
          obtain ⟨g, c5', A', c', hv, hg, hcell, hrow⟩ := hW.row HL.out
          injection hv with hv hva hvb
          subst hv
          clear hva hvb hrow
          obtain ⟨m, hm⟩ : ∃ m, m = L.length := ⟨_, rfl⟩
          rw [← hm] at hml hcell
          have HMM := Lib.hid hm
          clear hm
          go_wp2_with fail
          go_loopw [45] (fun y wr' => ∃ k : Nat, k ≤ m ∧ y = .int .i64 (k : Int) ∧ WrO wr' base (.slice (some ⟨g, 0, none⟩) N c4) (LL.map (List.map liftK)) ∧ Since w3 wr') (fun y _ => m - (intOf y).toNat)
          case atStart => exact ⟨0, by omega, rfl, hW, hS⟩
          case round =>
            obtain ⟨k, hk, rfl, hW, hS⟩ := hrel
            by_cases hkm : k < m
            · have hkm' : (k : Int) < m := by omega
              obtain ⟨g2, c6, A2, c2, hv, hg2, hcell2, hrow⟩ := hW.row HL.out
              injection hv with hv hva hvb
              injection hv with hv
              injection hv with hv hv2
              subst hv
              obtain ⟨q, x, M, rfl, hbq, hqs, hgq, hx, hf, hO⟩ := hrow k (by rw [← HMM.out]; exact hkm)
              rw [← HMM.out] at hcell2
              have HO := Lib.hid hO
              have HW := Lib.hid hW
              have hqw : w3.heap.size ≤ q := by omega
              clear hva hvb hv2 hrow hO hW hcell hg
              go_upto_region 16 with fail
              go_region
              all_goals (go_wp2_with fail)
              all_goals go_roundw
              all_goals first
                | (simp [intOf]; omega)
                | exact ⟨k + 1, by omega, by go_num, (HW.out.since (by (repeat (first | with_reducible (exact Since.refl _) | with_reducible assumption | with_reducible (refine Since.drew ?_) | with_reducible (refine Since.drewN ?_ _) | with_reducible (refine Since.alloc ?_ _) | (with_reducible (refine Since.setCell ?_ ?_ _); rotate_left; focus (first | (simp; done) | (simp; omega) | omega)) | (with_reducible (refine Since.trans ?_ (by with_reducible assumption))))))).put (OwnG.since HO.out (by (repeat (first | with_reducible (exact Since.refl _) | with_reducible assumption | with_reducible (refine Since.drew ?_) | with_reducible (refine Since.drewN ?_ _) | with_reducible (refine Since.alloc ?_ _) | (with_reducible (refine Since.setCell ?_ ?_ _); rotate_left; focus (first | (simp; done) | (simp; omega) | omega)) | (with_reducible (refine Since.trans ?_ (by with_reducible assumption))))))) rfl k _, (hS.drew).setCell hqw _⟩
            · obtain rfl : m = k := by omega
              go_wp2_with fail
              go_roundw
              case rel => exact ⟨i + 1, by omega, by go_num, hW, hS⟩
              case measure => simp [intOf]; omega
        · obtain rfl : N = i := by omega
          have hRa := hR3.on hS
          have hRb := hR23.on hS
          have hsm := rf_sameL A3 A c3 c LL _ hRa hRb (by rw [← HN.out]; exact hn) hLE.out
          rw [← HN.out] at hsm
          go_wp2_with (go_at_call 18; (with_reducible refine hsm.mono ?_); rintro e w7 ⟨rfl, hS7⟩)
          go_ret
          exact ⟨rfl, (hT3.trans hS).trans hS7⟩
    · have HAL := Lib.hid hal
      clear hal
      go_wp2_with (first | (go_at_call 22; (with_reducible refine (rf_copy A c LL _ hR2 (by omega) N5.out).mono ?_); rintro e w3 ⟨A3, c3, rfl, hR3, hS3⟩; have hR23 := hR2.on hS3; have hT3 := hT2.trans hS3; clear hR2 hT2) | (go_at_call 28; (with_reducible refine (ou_lift_no A3 c3 LL _ hR3 (by omega) N5.out HAL.out).mono ?_); rintro e w4 ⟨rfl, hS4⟩; have hR34 := hR3.on hS4; have hR24 := hR23.on hS4; clear hR3 hR23) | (go_at_call 29; (with_reducible refine (rf_lift_no A c LL _ hR24 (by omega) N5.out HAL.out).mono ?_); rintro e w5 ⟨rfl, hS5⟩; have hR35 := hR34.on hS5; have hR25 := hR24.on hS5; clear hR34 hR24) | (go_at_call 18; (with_reducible refine (same_nil _).mono ?_); rintro e w6 ⟨rfl, hS6⟩; have hR36 := hR35.on hS6; have hR26 := hR25.on hS6; clear hR35 hR25))
      go_loopw [37] (fun y wr => y = .int .i64 0 ∧ Since w6 wr) (fun y _ => 0)
      case atStart => exact ⟨rfl, Since.refl _⟩
      case round =>
        obtain ⟨rfl, hSr⟩ := hrel
        have hRa := hR36.on hSr
        have hRb := hR26.on hSr
        go_wp2_with (go_at_call 18; (with_reducible refine (rf_sameL A3 A c3 c LL _ hRa hRb hn hLE.out).mono ?_); rintro e w7 ⟨rfl, hS7⟩)
        go_ret
        exact ⟨rfl, by (repeat (first | with_reducible (exact Since.refl _) | with_reducible assumption | with_reducible (refine Since.drew ?_) | with_reducible (refine Since.drewN ?_ _) | with_reducible (refine Since.alloc ?_ _) | (with_reducible (refine Since.setCell ?_ ?_ _); rotate_left; focus (first | (simp; done) | (simp; omega) | omega)) | (with_reducible (refine Since.trans ?_ (by with_reducible assumption)))))⟩
  · go_wp2_with fail
    go_ret
    exact ⟨rfl, hT2⟩
end Go.Proofs.Ytdbenpncnkfliaa
