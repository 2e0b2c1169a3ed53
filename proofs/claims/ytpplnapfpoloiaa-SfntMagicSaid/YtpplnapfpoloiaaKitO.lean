/-
  Outlines as lists of lists of knots: as they read, and as a call has made them.
-/
import Derived.Test.YtpplnapfpoloiaaKitKt
import Derived.Test.YtpplnapfpoloiaaOuS
namespace Go.Proofs.Ytpplnapfpoloiaa
open Go.RowKit Go.ChangeShapes Go.WideShapes Go.Deep
set_option linter.unusedVariables false

/-- A contour's header. -/
structure Hd where
  (A : Option Addr) (n c : Nat)
def hdL (h : Hd) : List Value := [.slice h.A h.n h.c]
theorem hdL_len (h : Hd) : (hdL h).length = 1 := rfl
theorem hdL_one (h : Hd) : ∀ u ∈ hdL h, u.oneCell' = true := by
  intro u hu
  simp only [hdL, List.mem_cons, List.not_mem_nil, or_false] at hu
  subst hu
  rfl
theorem infoCt0 : (Try.prog.info? 71).map (fun i => (i.zero, i.size, i.bytes)) = some (some (.slice none 0 0), 1, 24) := by kernel_rfl
theorem infoCt : ∃ i z, Try.prog.info? 71 = some i ∧ i.zero = some z ∧ i.size = 1 ∧ i.bytes = 24 ∧ z.cells.size = 1 := by
  obtain ⟨i0, hi, hz0, hz1, hz2⟩ := info_parts infoCt0
  exact ⟨i0, _, hi, hz0, hz1, hz2, rfl⟩
/-- An outline as it reads, in blocks below B. -/
def RdOL (w : World) (B : Nat) (A : Option Addr) (LL : List (List Kt)) : Prop :=
  ∃ hs : List Hd, hs.length = LL.length ∧ RdG 1 hdL w B A hs ∧ ∀ (j : Nat) h L, hs[j]? = some h → LL[j]? = some L → h.n = L.length ∧ RdKl w B h.A L
section
variable {w w' : World} {B B' : Nat} {A : Option Addr} {LL : List (List Kt)}
theorem RdOL.keep (h : RdOL w B A LL) (hk : ∀ b o, b < B → w'.cell? ⟨b, o, none⟩ = w.cell? ⟨b, o, none⟩) : RdOL w' B A LL := by
  obtain ⟨hs, hl, hr, hK⟩ := h
  exact ⟨hs, hl, hr.keep hk, fun j x L h1 h2 => ⟨(hK j x L h1 h2).1, (hK j x L h1 h2).2.keep hk⟩⟩
theorem RdOL.more (h : RdOL w B A LL) (hB : B ≤ B') : RdOL w B' A LL := by
  obtain ⟨hs, hl, hr, hK⟩ := h
  exact ⟨hs, hl, hr.more hB, fun j x L h1 h2 => ⟨(hK j x L h1 h2).1, (hK j x L h1 h2).2.more hB⟩⟩
theorem RdOL.on (h : RdOL w w.heap.size A LL) (k : Since w w') : RdOL w' w'.heap.size A LL := (h.keep fun b o hb => k.1 b o hb).more k.below.size
/-- One contour: its header's cell, and its knots. -/
theorem RdOL.row (h : RdOL w B A LL) {j : Nat} {L : List Kt} (hj : LL[j]? = some L) : ∃ b o A' c', A = some ⟨b, o, none⟩ ∧ b < B ∧ w.cell? ⟨b, o + j, none⟩ = some (.slice A' L.length c') ∧ RdKl w B A' L := by
  obtain ⟨hs, hl, hr, hK⟩ := h
  have hjl : j < hs.length := by
    rw [hl]
    rcases Nat.lt_or_ge j LL.length with h | h
    · exact h
    · rw [List.getElem?_eq_none h] at hj; cases hj
  obtain ⟨b, o, rfl, hb, hc⟩ := hr (by omega)
  have h1 : hs[j]? = some hs[j] := List.getElem?_eq_getElem hjl
  obtain ⟨e1, h2⟩ := hK j _ L h1 hj
  refine ⟨b, o, hs[j].A, hs[j].c, rfl, hb, ?_, h2⟩
  have h3 := hc j _ h1 0 (by omega)
  rw [Nat.mul_one, Nat.add_zero] at h3
  rw [h3, ← e1]
  rfl
end
/-- An outline that a call has made. -/
def OwnO (w : World) (base : Nat) (v : Value) (LL : List (List Kt)) : Prop :=
  ∃ hs : List Hd, hs.length = LL.length ∧ OwnG 71 1 hdL w base v hs ∧ ∀ (j : Nat) h L, hs[j]? = some h → LL[j]? = some L → OwnK w base (.slice h.A h.n h.c) L
theorem own_apart {α β : Type} {e1 : α → List Value} {e2 : β → List Value} {t1 t2 : TypeId} {k1 k2 b1 b2 : Nat} {w : World} {v1 v2 : Value} {L1 : List α} {L2 : List β} (h1 : OwnG t1 k1 e1 w b1 v1 L1) (h2 : OwnG t2 k2 e2 w b2 v2 L2) (ht : t1 ≠ t2) {q : Nat} (hq : v1.ownBlock = some q) : v2.ownBlock ≠ some q := by
  intro hq2
  rcases h1.2 with ⟨rfl, _⟩ | ⟨g, c, cur, rfl, _, hh, _⟩
  · cases hq
  · rcases h2.2 with ⟨rfl, _⟩ | ⟨g', c', cur', rfl, _, hh', _⟩
    · cases hq2
    · simp only [Value.ownBlock, Option.some.injEq] at hq hq2
      subst hq
      subst hq2
      rw [hh] at hh'
      injection hh' with hh'
      injection hh' with _ e _
      exact ht e
section
variable {w w' : World} {base : Nat} {v : Value} {LL : List (List Kt)}
theorem OwnO.nil (w : World) (base : Nat) : OwnO w base (.slice none 0 0) [] := ⟨[], rfl, OwnG.nil _ _ _ _ _, fun j h L h1 h2 => by simp at h1⟩
theorem OwnO.since (h : OwnO w base v LL) (k : Since w w') : OwnO w' base v LL := by
  obtain ⟨hs, hl, ho, hK⟩ := h
  exact ⟨hs, hl, ho.since k, fun j x L h1 h2 => (hK j x L h1 h2).since k⟩
theorem OwnO.rd (h : OwnO w base v LL) : ∃ A c, v = .slice A LL.length c ∧ LL.length ≤ c ∧ RdOL w w.heap.size A LL := by
  obtain ⟨hs, hl, ho, hK⟩ := h
  obtain ⟨A, c, rfl, hc, hr⟩ := ho.rd (by omega) hdL_len
  rw [hl] at hc ⊢
  refine ⟨A, c, rfl, hc, hs, hl, hr, fun j x L h1 h2 => ?_⟩
  obtain ⟨A', c', e, hc', hr'⟩ := (hK j x L h1 h2).rd (by omega) knL_len
  injection e with e1 e2 e3
  exact ⟨e2, by rw [e1]; exact hr'⟩
/-- .. with a contour more, behind an append to its headers. -/
theorem OwnO.snoc {v' : Value} {A' : Option Addr} {n' c' : Nat} {L : List Kt} (h : OwnO w base v LL) (hrow : OwnK w base (.slice A' n' c') L) {hs : List Hd} (hl : hs.length = LL.length)
    (ho : OwnG 71 1 hdL w base v hs) (hK : ∀ (j : Nat) h L, hs[j]? = some h → LL[j]? = some L → OwnK w base (.slice h.A h.n h.c) L)
    (h9 : OwnG 71 1 hdL w' base v' (hs ++ [⟨A', n', c'⟩])) (hg : w.grownBy w' v.ownBlock) : OwnO w' base v' (LL ++ [L]) := by
  have hne : 71 ≠ 76 := by decide
  refine ⟨hs ++ [⟨A', n', c'⟩], by simp [hl], h9, fun j x M h1 h2 => ?_⟩
  by_cases hj : j < hs.length
  · rw [List.getElem?_append_left hj] at h1
    rw [List.getElem?_append_left (by omega)] at h2
    have hk := hK j x M h1 h2
    exact OwnG.grown hk hg (fun q hq e => own_apart ho hk hne e hq)
  · rw [List.getElem?_append_right (by omega)] at h1
    rw [List.getElem?_append_right (by omega)] at h2
    have e : j - hs.length = 0 := by
      rcases Nat.eq_zero_or_pos (j - hs.length) with h | h
      · exact h
      · rw [List.getElem?_eq_none (by simp; omega)] at h1; cases h1
    rw [e] at h1
    rw [← hl, e] at h2
    simp only [List.getElem?_cons_zero, Option.some.injEq] at h1 h2
    subst h1 h2
    exact OwnG.grown hrow hg (fun q hq e => own_apart ho hrow hne e hq)
end
/-- What 'Same' needs. -/
def outD (LL : List (List Kt)) (hs : List Hd) : OutD :=
  ⟨LL.length, fun j => (hs.getD j ⟨none, 0, 0⟩).A, fun j => (LL.getD j []).length, fun j => (hs.getD j ⟨none, 0, 0⟩).c, fun j i => ((LL.getD j []).getD i ⟨0, 0, false⟩).x, fun j i => ((LL.getD j []).getD i ⟨0, 0, false⟩).y, fun j i => ((LL.getD j []).getD i ⟨0, 0, false⟩).o⟩
theorem RdOL.out {w : World} {B : Nat} {A : Option Addr} {LL : List (List Kt)} (h : RdOL w B A LL) (hm : ∀ L, L ∈ LL → L.length ≤ maxLen) : ∃ hs, RdO w B A (outD LL hs) := by
  obtain ⟨hs, hl, hr, hK⟩ := h
  refine ⟨hs, fun hn => ?_, fun j hj => ?_, fun j hj => ?_⟩
  · obtain ⟨b, o, rfl, hb, hc⟩ := hr (by rw [hl]; exact hn)
    refine ⟨b, o, rfl, hb, fun j hj => ?_⟩
    have hj' : j < LL.length := hj
    have h1 : hs[j]? = some hs[j] := List.getElem?_eq_getElem (by omega)
    have h2 : LL[j]? = some LL[j] := List.getElem?_eq_getElem hj'
    have h3 := hc j _ h1 0 (by omega)
    rw [Nat.mul_one, Nat.add_zero] at h3
    rw [h3]
    unfold OutD.hd outD
    simp only [List.getD_eq_getElem?_getD, h1, h2, Option.getD_some]
    rw [← (hK j _ _ h1 h2).1]
    rfl
  · have hj' : j < LL.length := hj
    have h1 : hs[j]? = some hs[j] := List.getElem?_eq_getElem (by omega)
    have h2 : LL[j]? = some LL[j] := List.getElem?_eq_getElem hj'
    have hk := (hK j _ _ h1 h2).2
    unfold outD
    simp only [List.getD_eq_getElem?_getD, h1, h2, Option.getD_some]
    intro hn
    obtain ⟨b, o, e, hb, hc⟩ := hk hn
    refine ⟨b, o, e, hb, fun i hi => ?_⟩
    have h4 : LL[j][i]? = some LL[j][i] := List.getElem?_eq_getElem hi
    have h5 := hc i _ h4
    simp only [h4, Option.getD_some]
    exact ⟨h5 0 (by omega), h5 1 (by omega), h5 2 (by omega)⟩
  · have hj' : j < LL.length := hj
    have h2 : LL[j]? = some LL[j] := List.getElem?_eq_getElem hj'
    show (LL.getD j []).length ≤ maxLen
    rw [List.getD_eq_getElem?_getD, h2]
    exact hm _ (List.getElem_mem hj')
theorem rf_sameL (A A' : Option Addr) (c c' : Nat) (LL : List (List Kt)) (w : World) (h : RdOL w w.heap.size A LL) (h' : RdOL w w.heap.size A' LL) (hn : LL.length ≤ maxLen) (hm : ∀ L, L ∈ LL → L.length ≤ maxLen) :
    Calls Try.prog 35 #[.slice A LL.length c, .slice A' LL.length c'] w fun e w' => e = .returned (.bool true) ∧ Since w w' := by
  obtain ⟨hs, h1⟩ := h.out hm
  obtain ⟨hs', h2⟩ := h'.out hm
  exact rf_same7 A A' c c' (outD LL hs) (outD LL hs') w h1 h2 ⟨rfl, fun j hj => ⟨rfl, fun i hi => ⟨rfl, rfl, rfl⟩⟩⟩ hn
end Go.Proofs.Ytpplnapfpoloiaa
