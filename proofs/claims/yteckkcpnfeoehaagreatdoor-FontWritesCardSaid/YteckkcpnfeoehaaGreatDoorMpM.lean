/-
  Texts of this seat, put together: each with its own head.
-/
import Derived.Test.YteckkcpnfeoehaaGreatDoorMnAf
import Derived.Test.YteckkcpnfeoehaaGreatDoorMnAb
import Derived.Test.YteckkcpnfeoehaaGreatDoorMpC
import Derived.Test.YteckkcpnfeoehaaGreatDoorMnAe
import Derived.Test.YteckkcpnfeoehaaGreatDoorKitT
import Derived.Test.YteckkcpnfeoehaaGreatDoorMnAg

/-
  A reader in its box: all blocks but its own stand.
-/
namespace Go.Proofs.YteckkcpnfeoehaaGreatDoor
set_option maxRecDepth 100000
open Go.RowKit Go.ChangeShapes Go.WideShapes Go.Deep
set_option linter.unusedVariables false
set_option linter.unusedSimpArgs false

/-- All blocks but q stand, and what was new stays new. -/
def Nigh (q : Nat) (w w' : World) : Prop := KeepBut q w w' ∧ ∀ w0, Since w0 w → w0.heap.size ≤ q → Since w0 w'
theorem Nigh.refl (q : Nat) (w : World) : Nigh q w w := ⟨KeepBut.refl q w, fun _ h _ => h⟩
theorem Nigh.trans {q : Nat} {a b c : World} (h : Nigh q a b) (k : Nigh q b c) : Nigh q a c := ⟨h.1.trans k.1, fun w0 h0 hq => k.2 w0 (h.2 w0 h0 hq) hq⟩
theorem Nigh.drew {q : Nat} {a b : World} (h : Nigh q a b) : Nigh q a b.drew := ⟨⟨h.1.1, h.1.2⟩, fun w0 h0 hq => (h.2 w0 h0 hq).drew⟩
theorem Nigh.drewN {q : Nat} {a b : World} (h : Nigh q a b) (k : Nat) : Nigh q a (b.drewN k) := ⟨⟨h.1.1, h.1.2⟩, fun w0 h0 hq => (h.2 w0 h0 hq).drewN k⟩
theorem Nigh.set {q : Nat} {a b : World} (h : Nigh q a b) (o : Nat) (v : Value) : Nigh q a (b.setCell ⟨q, o, none⟩ v) := ⟨h.1.set o v, fun w0 h0 hq => (h.2 w0 h0 hq).setCell hq v⟩
theorem Nigh.since {q : Nat} {a b c : World} (h : Nigh q a b) (k : Since b c) : Nigh q a c := ⟨h.1.since k, fun w0 h0 hq => (h.2 w0 h0 hq).trans k⟩
theorem Nigh.grown {q : Nat} {a b c : World} {row : Option Nat} (h : Nigh q a b) (hg : b.grownBy c row) (hr : ∀ k, row = some k → a.heap.size ≤ k) : Nigh q a c :=
  ⟨⟨Nat.le_trans h.1.1 hg.size, fun x hx hq => (hg.block x (Nat.lt_of_lt_of_le hx h.1.1) (fun e => by have := hr x e.symm; omega)).trans (h.1.2 x hx hq)⟩,
   fun w0 h0 hq => since_grown (h.2 w0 h0 hq) hg (fun k hk => Nat.le_trans h0.below.size (hr k hk))⟩
theorem Row.near {w w' : World} {q b n : Nat} {F : Nat → Value} (h : Row w b n F) (k : Nigh q w w') (hb : b ≠ q) : Row w' b n F := by
  have e := k.1.2 b h.2.2 hb
  refine ⟨fun j hj => ?_, fun j => ?_, Nat.lt_of_lt_of_le h.2.2 k.1.1⟩
  · rw [← h.1 j hj]; simp only [World.cell?, e]
  · rw [← h.2.1 j]; simp only [World.frozen?, e]
theorem OwnG.near {α : Type} {enc : α → List Value} {t : TypeId} {k base q : Nat} {w w' : World} {v : Value} {L : List α} (h : OwnG t k enc w base v L) (hk : Nigh q w w') (hq : v.ownBlock ≠ some q) : OwnG t k enc w' base v L := by
  refine ⟨h.1, ?_⟩
  rcases h.2 with h0 | ⟨g, cap, cur, rfl, hb, hh, r⟩
  · exact .inl h0
  · refine .inr ⟨g, cap, cur, rfl, hb, ?_, r⟩
    have hlt : g < w.heap.size := by
      rcases Nat.lt_or_ge g w.heap.size with hlt | hge
      · exact hlt
      · rw [Array.getElem?_eq_none hge] at hh; cases hh
    rw [hk.1.2 g hlt (fun e => hq (by rw [← e]; rfl))]; exact hh
end Go.Proofs.YteckkcpnfeoehaaGreatDoor

/-
  Slices of slices of bytes, as they read.
-/
namespace Go.Proofs.YteckkcpnfeoehaaGreatDoor
set_option maxRecDepth 100000
open Go.RowKit Go.ChangeShapes Go.WideShapes Go.Deep
set_option linter.unusedVariables false
set_option linter.unusedSimpArgs false

/-- Rows of bytes as they read, in blocks below B. -/
def RdBL (w : World) (B : Nat) (A : Option Addr) (GG : List (List Int)) : Prop :=
  ∃ hs : List Hd, hs.length = GG.length ∧ RdG 1 hdL w B A hs ∧ ∀ (j : Nat) h L, hs[j]? = some h → GG[j]? = some L → h.n = L.length ∧ h.n ≤ h.c ∧ RdB w B h.A L
section
variable {w w' : World} {B B' : Nat} {A : Option Addr} {GG : List (List Int)}
theorem RdBL.keep (h : RdBL w B A GG) (hk : ∀ b o, b < B → w'.cell? ⟨b, o, none⟩ = w.cell? ⟨b, o, none⟩) : RdBL w' B A GG := by
  obtain ⟨hs, hl, hr, hK⟩ := h
  exact ⟨hs, hl, hr.keep hk, fun j x L h1 h2 => ⟨(hK j x L h1 h2).1, (hK j x L h1 h2).2.1, (hK j x L h1 h2).2.2.keep hk⟩⟩
theorem RdBL.more (h : RdBL w B A GG) (hB : B ≤ B') : RdBL w B' A GG := by
  obtain ⟨hs, hl, hr, hK⟩ := h
  exact ⟨hs, hl, hr.more hB, fun j x L h1 h2 => ⟨(hK j x L h1 h2).1, (hK j x L h1 h2).2.1, (hK j x L h1 h2).2.2.more hB⟩⟩
theorem RdBL.on (h : RdBL w w.heap.size A GG) (k : Since w w') : RdBL w' w'.heap.size A GG := (h.keep fun b o hb => k.1 b o hb).more k.below.size
theorem RdBL.nigh {q : Nat} (h : RdBL w B A GG) (k : Nigh q w w') (hB : B ≤ q) (hq : q < w.heap.size) : RdBL w' B A GG := h.keep fun b o hb => by
  have e := k.1.2 b (by omega) (by omega)
  simp only [World.cell?, e]
theorem RdBL.nil : RdBL w B none [] := ⟨[], rfl, RdG.nil, fun j h L h1 h2 => by simp at h1⟩
/-- One row's cells. -/
theorem RdBL.row (h : RdBL w B A GG) {j : Nat} {L : List Int} (hj : GG[j]? = some L) : ∃ b o A' c', A = some ⟨b, o, none⟩ ∧ b < B ∧ w.cell? ⟨b, o + j, none⟩ = some (.slice A' L.length c') ∧ L.length ≤ c' ∧ RdB w B A' L := by
  obtain ⟨hs, hl, hr, hK⟩ := h
  have hjl : j < hs.length := by
    rw [hl]
    rcases Nat.lt_or_ge j GG.length with h | h
    · exact h
    · rw [List.getElem?_eq_none h] at hj; cases hj
  obtain ⟨b, o, rfl, hb, hc⟩ := hr (by omega)
  have h1 : hs[j]? = some hs[j] := List.getElem?_eq_getElem hjl
  obtain ⟨e1, e2, h2⟩ := hK j _ L h1 hj
  have h3 := hc j _ h1 0 (by omega)
  rw [Nat.add_zero, Nat.mul_one] at h3
  exact ⟨b, o, hs[j].A, hs[j].c, rfl, hb, by rw [h3, ← e1]; rfl, by omega, h2⟩
end
end Go.Proofs.YteckkcpnfeoehaaGreatDoor

/-
  Rows of rows of bytes: of a call's own; that came in.
-/
namespace Go.Proofs.YteckkcpnfeoehaaGreatDoor
set_option maxRecDepth 100000
open Go.RowKit Go.ChangeShapes Go.WideShapes Go.Deep
set_option linter.unusedVariables false
set_option linter.unusedSimpArgs false

theorem infoBs0 : (Tryz.prog.info? 34).map (fun i => (i.zero, i.size, i.bytes)) = some (some (.slice none 0 0), 1, 24) := by kernel_rfl
theorem infoBs : ∃ i z, Tryz.prog.info? 34 = some i ∧ i.zero = some z ∧ i.size = 1 ∧ i.bytes = 24 ∧ z.cells.size = 1 := by
  obtain ⟨i0, hi, hz0, hz1, hz2⟩ := info_parts infoBs0
  exact ⟨i0, _, hi, hz0, hz1, hz2, rfl⟩
def OwnBL (w : World) (base : Nat) (v : Value) (GG : List (List Int)) : Prop :=
  ∃ hs : List Hd, hs.length = GG.length ∧ OwnG 34 1 hdL w base v hs ∧ ∀ (j : Nat) h L, hs[j]? = some h → GG[j]? = some L → OwnB w base (.slice h.A h.n h.c) L
section
variable {w w' : World} {base : Nat} {v : Value} {GG : List (List Int)}
theorem OwnBL.nil (w : World) (base : Nat) : OwnBL w base (.slice none 0 0) [] := ⟨[], rfl, OwnG.nil _ _ _ _ _, fun j h L h1 h2 => by simp at h1⟩
theorem OwnBL.since (h : OwnBL w base v GG) (k : Since w w') : OwnBL w' base v GG := by
  obtain ⟨hs, hl, ho, hK⟩ := h
  exact ⟨hs, hl, ho.since k, fun j x L h1 h2 => (hK j x L h1 h2).since k⟩
theorem OwnBL.rd (h : OwnBL w base v GG) : ∃ A c, v = .slice A GG.length c ∧ GG.length ≤ c ∧ RdBL w w.heap.size A GG := by
  obtain ⟨hs, hl, ho, hK⟩ := h
  obtain ⟨A, c, rfl, hc, hr⟩ := ho.rd (by omega) hdL_len
  rw [hl] at hc ⊢
  refine ⟨A, c, rfl, hc, hs, hl, hr, fun j x L h1 h2 => ?_⟩
  obtain ⟨A', c', e, hc', hr'⟩ := (hK j x L h1 h2).rd (by omega) byL_len
  injection e with e1 e2 e3
  exact ⟨e2, by omega, by rw [e1]; exact hr'⟩
/-- append of a row of bytes to such; where the outer row lies then. -/
theorem wpList_append_bl {ops : Array Oper} {rest : List Oper} {o : Oper} {a : Act} {Q : Exit → Act → World → Prop} (hgd : o.guard = none) (s x : Operand)
    (ho : o.op = .call { callee := .builtin .append, args := #[s, x], argTypes := #[28, 28] })
    (hs : a.eval s = v) (hown : OwnBL w base v GG) (b c : Nat) (A' : Option Addr) (n' c' : Nat) (L : List Int) (hx : a.eval x = .slice (some ⟨b, 0, none⟩) 1 c) (ty : TypeId) (hb : b = w.heap.size) (hrow : OwnB w base (.slice A' n' c') L) (hL : GG.length ≤ 1000000) (hbase : base ≤ w.heap.size)
    (h : ∀ v' w', OwnBL w' base v' (GG ++ [L]) → (w.alloc (.cells #[.slice A' n' c'] ty)).grownBy w' v.ownBlock → (∀ q, v.ownBlock = some q → base ≤ q ∧ q < w.heap.size) → (v'.ownBlock = v.ownBlock ∨ v'.ownBlock = some (w.heap.size + 1)) → wpList Tryz.prog ops Q rest (a.put o.dst v') w') :
    wpList Tryz.prog ops Q (o :: rest) a (w.alloc (.cells #[.slice A' n' c'] ty)) := by
  obtain ⟨hh, hl, ho', hK⟩ := hown
  refine wpList_append_w hgd s x 28 28 34 34 ho (by omega) hdL_len hdL_one 24 Tryz.underlying28 Tryz.underlying28 infoBs base v hh hs (ho'.alloc _) _ _ c [⟨A', n', c'⟩] hx (hd_one w b hb ty ⟨A', n', c'⟩) (by simp only [List.length_cons, List.length_nil]; omega) (by simp only [List.length_cons, List.length_nil, maxLen]; omega) (by simp; omega) (fun v' w' h9 hg hq hv => h v' w' ?_ hg (fun q e => ho'.lt e) (by simpa using hv))
  have hne : 34 ≠ 5 := by decide
  have ho2 := ho'.alloc (.cells #[.slice A' n' c'] ty)
  refine ⟨hh ++ [⟨A', n', c'⟩], by simp [hl], h9, fun j x M h1 h2 => ?_⟩
  by_cases hj : j < hh.length
  · rw [List.getElem?_append_left hj] at h1
    rw [List.getElem?_append_left (by omega)] at h2
    have hk := (hK j x M h1 h2).alloc (.cells #[.slice A' n' c'] ty)
    exact OwnG.grown hk hg (fun q hq e => own_apart ho2 hk hne e hq)
  · rw [List.getElem?_append_right (by omega)] at h1
    rw [List.getElem?_append_right (by omega)] at h2
    have e : j - hh.length = 0 := by
      rcases Nat.eq_zero_or_pos (j - hh.length) with h | h
      · exact h
      · rw [List.getElem?_eq_none (by simp; omega)] at h1; cases h1
    rw [e] at h1
    rw [← hl, e] at h2
    simp only [List.getElem?_cons_zero, Option.some.injEq] at h1 h2
    subst h1 h2
    have hr2 := hrow.alloc (.cells #[.slice A' n' c'] ty)
    exact OwnG.grown hr2 hg (fun q hq e => own_apart ho2 hr2 hne e hq)
end
/-- Rows of bytes of a value that came in. -/
theorem rdbl_of {w : World} {A : Option Addr} {n : Nat} {AA : Nat → Option Addr} {LL CC : Nat → Nat} {Z : Nat → Nat → Int} (hr : Rd w w.heap.size A n (fun j => .slice (AA j) (LL j) (CC j))) (hall : ∀ j, j < n → LL j ≤ CC j ∧ CC j ≤ maxLen ∧ Rd w w.heap.size (AA j) (LL j) (IntRow .u8 (Z j)) ∧ ∀ i, i < LL j → (Lit.int .u8 (Z j i)).wf = true) :
    RdBL w w.heap.size A ((List.range n).map (fun j => (List.range (LL j)).map (Z j))) := by
  refine ⟨(List.range n).map (fun j => ⟨AA j, LL j, CC j⟩), by simp, fun hn => ?_, fun j h L h1 h2 => ?_⟩
  · obtain ⟨b, o, e, hb, hc⟩ := hr (by simpa using hn)
    refine ⟨b, o, e, hb, fun j s hj i hi => ?_⟩
    have hjn : j < n := by
      rcases Nat.lt_or_ge j n with h | h
      · exact h
      · rw [List.getElem?_eq_none (by simpa using h)] at hj; cases hj
    obtain rfl : i = 0 := by omega
    rw [List.getElem?_map, List.getElem?_range hjn] at hj
    simp only [Option.map_some, Option.some.injEq] at hj
    subst hj
    rw [Nat.mul_one, Nat.add_zero]
    exact hc j hjn
  · have hjn : j < n := by
      rcases Nat.lt_or_ge j n with h | h
      · exact h
      · rw [List.getElem?_eq_none (by simpa using h)] at h1; cases h1
    rw [List.getElem?_map, List.getElem?_range hjn] at h1 h2
    simp only [Option.map_some, Option.some.injEq] at h1 h2
    subst h1 h2
    obtain ⟨a1, _, a3, _⟩ := hall j hjn
    exact ⟨by simp, a1, rdb_map a3⟩
theorem rows_in {n : Nat} {LL : Nat → Nat} {Z : Nat → Nat → Int} {b : List Int} (h : b ∈ (List.range n).map (fun j => (List.range (LL j)).map (Z j))) : ∃ j, j < n ∧ b = (List.range (LL j)).map (Z j) := by
  obtain ⟨j, hj, rfl⟩ := List.mem_map.1 h
  exact ⟨j, by simpa using hj, rfl⟩
theorem rows_bytes {w : World} {n : Nat} {AA : Nat → Option Addr} {LL CC : Nat → Nat} {Z : Nat → Nat → Int} (hall : ∀ j, j < n → LL j ≤ CC j ∧ CC j ≤ maxLen ∧ Rd w w.heap.size (AA j) (LL j) (IntRow .u8 (Z j)) ∧ ∀ i, i < LL j → (Lit.int .u8 (Z j i)).wf = true) : ∀ b, b ∈ (List.range n).map (fun j => (List.range (LL j)).map (Z j)) → Bytes b := fun b hb => by
  obtain ⟨j, hj, rfl⟩ := rows_in hb
  obtain ⟨_, _, _, a4⟩ := hall j hj
  exact bytes_map (fun i hi => by simpa [Lit.wf, IntKind.min, IntKind.max, IntKind.signed, IntKind.bits] using a4 i hi)
end Go.Proofs.YteckkcpnfeoehaaGreatDoor
