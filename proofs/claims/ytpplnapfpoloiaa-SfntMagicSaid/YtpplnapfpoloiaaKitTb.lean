/-
  Lists of tables: as they read, and as a call has made them.
-/
import Derived.Test.YtpplnapfpoloiaaKitY
import Derived.Test.YtpplnapfpoloiaaKitQ
namespace Go.Proofs.Ytpplnapfpoloiaa
open Go.RowKit Go.ChangeShapes Go.WideShapes Go.Deep
set_option linter.unusedVariables false
set_option linter.unusedSimpArgs false

/-- A table. -/
structure Tb where
  (tag : ByteArray) (data : List Int)
/-- A table's cells. -/
structure Th where
  (tag : ByteArray) (A : Option Addr) (n c : Nat)
def thL (h : Th) : List Value := [.string h.tag, .slice h.A h.n h.c]
theorem thL_len (h : Th) : (thL h).length = 2 := rfl
theorem thL_one (h : Th) : ∀ u ∈ thL h, u.oneCell' = true := by
  intro u hu
  simp only [thL, List.mem_cons, List.not_mem_nil, or_false] at hu
  rcases hu with rfl | rfl <;> rfl
theorem infoTb0 : (Try.prog.info? 36).map (fun i => (i.zero, i.size, i.bytes)) = some (some (.agg #[.string ByteArray.empty, .slice none 0 0]), 2, 40) := by kernel_rfl
theorem infoTb : ∃ i z, Try.prog.info? 36 = some i ∧ i.zero = some z ∧ i.size = 2 ∧ i.bytes = 40 ∧ z.cells.size = 2 := by
  obtain ⟨i0, hi, hz0, hz1, hz2⟩ := info_parts infoTb0
  exact ⟨i0, _, hi, hz0, hz1, hz2, rfl⟩
/-- Tables as they read, in blocks below B. -/
def RdTL (w : World) (B : Nat) (A : Option Addr) (TT : List Tb) : Prop :=
  ∃ hs : List Th, hs.length = TT.length ∧ RdG 2 thL w B A hs ∧ ∀ (j : Nat) h T, hs[j]? = some h → TT[j]? = some T → h.tag = T.tag ∧ h.n = T.data.length ∧ RdB w B h.A T.data
section
variable {w w' : World} {B B' : Nat} {A : Option Addr} {TT : List Tb}
theorem RdTL.keep (h : RdTL w B A TT) (hk : ∀ b o, b < B → w'.cell? ⟨b, o, none⟩ = w.cell? ⟨b, o, none⟩) : RdTL w' B A TT := by
  obtain ⟨hs, hl, hr, hK⟩ := h
  exact ⟨hs, hl, hr.keep hk, fun j x T h1 h2 => ⟨(hK j x T h1 h2).1, (hK j x T h1 h2).2.1, (hK j x T h1 h2).2.2.keep hk⟩⟩
theorem RdTL.more (h : RdTL w B A TT) (hB : B ≤ B') : RdTL w B' A TT := by
  obtain ⟨hs, hl, hr, hK⟩ := h
  exact ⟨hs, hl, hr.more hB, fun j x T h1 h2 => ⟨(hK j x T h1 h2).1, (hK j x T h1 h2).2.1, (hK j x T h1 h2).2.2.more hB⟩⟩
theorem RdTL.on (h : RdTL w w.heap.size A TT) (k : Since w w') : RdTL w' w'.heap.size A TT := (h.keep fun b o hb => k.1 b o hb).more k.below.size
theorem RdTL.nil : RdTL w B A [] := ⟨[], rfl, RdG.nil, fun j h T h1 h2 => by simp at h1⟩
/-- One table's cells. -/
theorem RdTL.row (h : RdTL w B A TT) {j : Nat} {T : Tb} (hj : TT[j]? = some T) : ∃ b o A' c', A = some ⟨b, o, none⟩ ∧ b < B ∧ w.cell? ⟨b, o + j * 2, none⟩ = some (.string T.tag) ∧ w.cell? ⟨b, o + j * 2 + 1, none⟩ = some (.slice A' T.data.length c') ∧ RdB w B A' T.data := by
  obtain ⟨hs, hl, hr, hK⟩ := h
  have hjl : j < hs.length := by
    rw [hl]
    rcases Nat.lt_or_ge j TT.length with h | h
    · exact h
    · rw [List.getElem?_eq_none h] at hj; cases hj
  obtain ⟨b, o, rfl, hb, hc⟩ := hr (by omega)
  have h1 : hs[j]? = some hs[j] := List.getElem?_eq_getElem hjl
  obtain ⟨e1, e2, h2⟩ := hK j _ T h1 hj
  have h3 := hc j _ h1 0 (by omega)
  have h4 := hc j _ h1 1 (by omega)
  rw [Nat.add_zero] at h3
  refine ⟨b, o, hs[j].A, hs[j].c, rfl, hb, by rw [h3, ← e1]; rfl, by rw [h4, ← e2]; rfl, h2⟩
end
/-- Tables that a call has made. -/
def OwnT (w : World) (base : Nat) (v : Value) (TT : List Tb) : Prop :=
  ∃ hs : List Th, hs.length = TT.length ∧ OwnG 36 2 thL w base v hs ∧ ∀ (j : Nat) h T, hs[j]? = some h → TT[j]? = some T → h.tag = T.tag ∧ OwnB w base (.slice h.A h.n h.c) T.data
section
variable {w w' : World} {base : Nat} {v : Value} {TT : List Tb}
theorem OwnT.nil (w : World) (base : Nat) : OwnT w base (.slice none 0 0) [] := ⟨[], rfl, OwnG.nil _ _ _ _ _, fun j h T h1 h2 => by simp at h1⟩
theorem OwnT.since (h : OwnT w base v TT) (k : Since w w') : OwnT w' base v TT := by
  obtain ⟨hs, hl, ho, hK⟩ := h
  exact ⟨hs, hl, ho.since k, fun j x T h1 h2 => ⟨(hK j x T h1 h2).1, (hK j x T h1 h2).2.since k⟩⟩
theorem OwnT.low {base' : Nat} (h : OwnT w base v TT) (hb : base' ≤ base) : OwnT w base' v TT := by
  obtain ⟨hs, hl, ho, hK⟩ := h
  exact ⟨hs, hl, ho.low hb, fun j x T h1 h2 => ⟨(hK j x T h1 h2).1, (hK j x T h1 h2).2.low hb⟩⟩
theorem OwnT.keepB (h : OwnT w base v TT) (hk : ∀ b, base ≤ b → b < w.heap.size → w'.heap[b]? = w.heap[b]?) : OwnT w' base v TT := by
  obtain ⟨hs, hl, ho, hK⟩ := h
  exact ⟨hs, hl, ho.keep hk, fun j x T h1 h2 => ⟨(hK j x T h1 h2).1, (hK j x T h1 h2).2.keep hk⟩⟩
theorem OwnT.rd (h : OwnT w base v TT) : ∃ A c, v = .slice A TT.length c ∧ TT.length ≤ c ∧ RdTL w w.heap.size A TT := by
  obtain ⟨hs, hl, ho, hK⟩ := h
  obtain ⟨A, c, rfl, hc, hr⟩ := ho.rd (by omega) thL_len
  rw [hl] at hc ⊢
  refine ⟨A, c, rfl, hc, hs, hl, hr, fun j x T h1 h2 => ?_⟩
  obtain ⟨A', c', e, hc', hr'⟩ := (hK j x T h1 h2).2.rd (by omega) byL_len
  injection e with e1 e2 e3
  exact ⟨(hK j x T h1 h2).1, e2, by rw [e1]; exact hr'⟩
end
theorem tb_one {w : World} (b : Nat) (hb : b = w.heap.size) (ty : TypeId) (h : Th) : RdG 2 thL (w.alloc (.cells #[.string h.tag, .slice h.A h.n h.c] ty)) (w.alloc (.cells #[.string h.tag, .slice h.A h.n h.c] ty)).heap.size (some ⟨b, 0, none⟩) [h] :=
  rdG_one hb h (fun i hi => by
    have h : i = 0 ∨ i = 1 := by omega
    rcases h with rfl | rfl <;> rfl)
/-- .. with a table more, behind an append. -/
theorem OwnT.snoc {w w' : World} {base : Nat} {v v' : Value} {TT : List Tb} {s : ByteArray} {A' : Option Addr} {n' c' : Nat} {L : List Int} (hrow : OwnB w base (.slice A' n' c') L) {hs : List Th} (hl : hs.length = TT.length)
    (ho : OwnG 36 2 thL w base v hs) (hK : ∀ (j : Nat) h T, hs[j]? = some h → TT[j]? = some T → h.tag = T.tag ∧ OwnB w base (.slice h.A h.n h.c) T.data)
    (h9 : OwnG 36 2 thL w' base v' (hs ++ [⟨s, A', n', c'⟩])) (hg : w.grownBy w' v.ownBlock) : OwnT w' base v' (TT ++ [⟨s, L⟩]) := by
  have hne : 36 ≠ 5 := by decide
  refine ⟨hs ++ [⟨s, A', n', c'⟩], by simp [hl], h9, fun j x M h1 h2 => ?_⟩
  by_cases hj : j < hs.length
  · rw [List.getElem?_append_left hj] at h1
    rw [List.getElem?_append_left (by omega)] at h2
    obtain ⟨e, hk⟩ := hK j x M h1 h2
    exact ⟨e, OwnG.grown hk hg (fun q hq e => own_apart ho hk hne e hq)⟩
  · rw [List.getElem?_append_right (by omega)] at h1
    rw [List.getElem?_append_right (by omega)] at h2
    have e : j - hs.length = 0 := by
      rcases Nat.eq_zero_or_pos (j - hs.length) with h | h
      · exact h
      · rw [List.getElem?_eq_none (by simp; omega)] at h1; cases h1
    rw [e] at h1
    rw [← hl, e] at h2
    simp only [List.getElem?_cons_zero, Option.some.injEq] at h1 h2
    subst h1 h2
    exact ⟨rfl, OwnG.grown hrow hg (fun q hq e => own_apart ho hrow hne e hq)⟩
/-- append of one table, just built, in a region that draws its order. -/
theorem oper_append_tb {w : World} {o : Oper} {a : Act} {K : Act → World → Prop} {Q : Exit → Act → World → Prop} (s x : Operand)
    (ho : o.op = .call { callee := .builtin .append, args := #[s, x], argTypes := #[22, 22] })
    (base : Nat) (v : Value) (TT : List Tb) (hs : a.eval s = v) (hown : OwnT w base v TT) (b c : Nat) (t : ByteArray) (A' : Option Addr) (n' c' : Nat) (L : List Int) (hx : a.eval x = .slice (some ⟨b, 0, none⟩) 1 c) (ty : TypeId) (hb : b = w.heap.size) (hrow : OwnB w base (.slice A' n' c') L) (hL : TT.length ≤ 1000000) (hbase : base ≤ w.heap.size)
    (h : ∀ v' w', OwnT w' base v' (TT ++ [⟨t, L⟩]) → (w.alloc (.cells #[.string t, .slice A' n' c'] ty)).grownBy w' v.ownBlock → (∀ q, v.ownBlock = some q → base ≤ q ∧ q < w.heap.size) → K (a.put o.dst v') w') :
    Oper.wp Try.prog o a (w.alloc (.cells #[.string t, .slice A' n' c'] ty)) K Q := by
  obtain ⟨hh, hl, ho', hK⟩ := hown
  refine oper_append_g s x 22 36 ho (by omega) thL_len thL_one 40 Try.underlying22 infoTb base v hh hs (ho'.alloc _) _ _ 1 c [⟨t, A', n', c'⟩] rfl hx (tb_one b hb ty ⟨t, A', n', c'⟩) (by simp only [List.length_cons, List.length_nil]; omega) (by simp only [List.length_cons, List.length_nil, maxLen]; omega) (by simp; omega) (fun v' w' h9 hg hq => h v' w' ?_ hg (fun q e => ho'.lt e))
  exact OwnT.snoc (w := w.alloc (.cells #[.string t, .slice A' n' c'] ty)) (hrow.alloc _) hl (ho'.alloc _) (fun j x M h1 h2 => ⟨(hK j x M h1 h2).1, (hK j x M h1 h2).2.alloc _⟩) h9 hg
/-- A table in a box. -/
theorem two_tb {w w' : World} {s : ByteArray} {A : Option Addr} {n c : Nat} {t : TypeId} (h : Since (w.alloc (.cells #[.string s, .slice A n c] t)) w') : w'.cell? ⟨w.heap.size, 0, none⟩ = some (.string s) ∧ w'.cell? ⟨w.heap.size, 1, none⟩ = some (.slice A n c) ∧ w.heap.size < w'.heap.size := by
  have h0 : w.heap.size < (w.alloc (.cells #[.string s, .slice A n c] t)).heap.size := by simp
  have hr : Row (w.alloc (.cells #[.string s, .slice A n c] t)) w.heap.size 2 (fun j => if j = 0 then .string s else .slice A n c) := Row.of_cells fun j hj => by
    have h : j = 0 ∨ j = 1 := by omega
    rcases h with rfl | rfl <;> rfl
  exact ⟨(h.1 _ _ h0).trans (hr.1 0 (by omega)), (h.1 _ _ h0).trans (hr.1 1 (by omega)), h.2.2.1 _ h0⟩
theorem Since.ofDrew {w w' : World} (h : Since w.drew w') : Since w w' := ((Since.refl w).drew).trans h
theorem two_tbd {w w' : World} {s : ByteArray} {A : Option Addr} {n c : Nat} {t : TypeId} (h : Since (w.alloc (.cells #[.string s, .slice A n c] t)).drew w') : w'.cell? ⟨w.heap.size, 0, none⟩ = some (.string s) ∧ w'.cell? ⟨w.heap.size, 1, none⟩ = some (.slice A n c) ∧ w.heap.size < w'.heap.size := two_tb h.ofDrew
end Go.Proofs.Ytpplnapfpoloiaa
