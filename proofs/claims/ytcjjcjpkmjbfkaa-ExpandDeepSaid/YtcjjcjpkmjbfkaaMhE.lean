/-
  Texts of this seat, put together: each with its own head.
-/
import Derived.Test.YtcjjcjpkmjbfkaaMhC
import Derived.Test.YtcjjcjpkmjbfkaaMhB
import Derived.Deep.QuietTactic
import Derived.BigQuiet

/-
  A reader in its box: all blocks but its own stand.
-/
namespace Go.Proofs.Ytcjjcjpkmjbfkaa
open Go.RowKit Go.ChangeShapes Go.WideShapes Go.Deep
set_option linter.unusedVariables false
set_option linter.unusedSimpArgs false

/-- All blocks but q stand, and what was new stays new. -/
def Nigh (q : Nat) (w w' : World) : Prop := KeepBut q w w' ∧ ∀ w0, Since w0 w → w0.heap.size ≤ q → Since w0 w'
theorem Nigh.refl (q : Nat) (w : World) : Nigh q w w := ⟨KeepBut.refl q w, fun _ h _ => h⟩
theorem Nigh.trans {q : Nat} {a b c : World} (h : Nigh q a b) (k : Nigh q b c) : Nigh q a c := ⟨h.1.trans k.1, fun w0 h0 hq => k.2 w0 (h.2 w0 h0 hq) hq⟩
theorem Nigh.drew {q : Nat} {a b : World} (h : Nigh q a b) : Nigh q a b.drew := ⟨⟨h.1.1, h.1.2⟩, fun w0 h0 hq => (h.2 w0 h0 hq).drew⟩
theorem Nigh.drewN {q : Nat} {a b : World} (h : Nigh q a b) (k : Nat) : Nigh q a (b.drewN k) := ⟨⟨h.1.1, h.1.2⟩, fun w0 h0 hq => (h.2 w0 h0 hq).drewN k⟩
theorem Nigh.set {q : Nat} {a b : World} (h : Nigh q a b) (o : Nat) (v : Value) : Nigh q a (b.setCell ⟨q, o, none⟩ v) := ⟨h.1.set o v, fun w0 h0 hq => (h.2 w0 h0 hq).setCell hq v⟩
theorem Row.near {w w' : World} {q b n : Nat} {F : Nat → Value} (h : Row w b n F) (k : Nigh q w w') (hb : b ≠ q) : Row w' b n F := by
  have e := k.1.2 b h.2.2 hb
  refine ⟨fun j hj => ?_, fun j => ?_, Nat.lt_of_lt_of_le h.2.2 k.1.1⟩
  · rw [← h.1 j hj]; simp only [World.cell?, e]
  · rw [← h.2.1 j]; simp only [World.frozen?, e]
theorem OwnG.near {α : Type} {enc : α → List Value} {t : TypeId} {k base q : Nat} {w w' : World} {v : Value} {L : List α} (h : OwnG t k enc w base v L) (hk : Nigh q w w') (hq : v.ownBlock ≠ some q) : OwnG t k enc w' base v L := by
  refine ⟨h.1, ?_⟩
  rcases h.2 with h0 | ⟨g, cap, cur, rfl, hb, hh, r⟩
  · exact .inl h0
  · refine .inr ⟨g, cap, cur, rfl, hb, ?_, r⟩
    have hlt : g < w.heap.size := by
      rcases Nat.lt_or_ge g w.heap.size with hlt | hge
      · exact hlt
      · rw [Array.getElem?_eq_none hge] at hh; cases hh
    rw [hk.1.2 g hlt (fun e => hq (by rw [← e]; rfl))]; exact hh
def RdrF (A : Option Addr) (n c : Nat) (p e : Int) (j : Nat) : Value := if j = 0 then .slice A n c else if j = 1 then .int .i64 p else .int .i64 e
theorem rdr_new (w : World) (b : Nat) (hb : b = w.heap.size) (t : TypeId) (A : Option Addr) (n c : Nat) : Row (w.alloc (.cells #[.slice A n c, .int .i64 0, .int .i64 0] t)) b 3 (RdrF A n c 0 0) := by
  subst hb
  refine Row.of_cells fun j hj => ?_
  have h : j = 0 ∨ j = 1 ∨ j = 2 := by omega
  rcases h with rfl | rfl | rfl <;> rfl
theorem rdr_cells {w : World} {q n c : Nat} {A : Option Addr} {p e : Int} (h : Row w q 3 (RdrF A n c p e)) : w.cell? ⟨q, 0, none⟩ = some (.slice A n c) ∧ w.cell? ⟨q, 1, none⟩ = some (.int .i64 p) ∧ w.cell? ⟨q, 2, none⟩ = some (.int .i64 e) ∧ w.frozen? ⟨q, 1, none⟩ = false ∧ w.frozen? ⟨q, 2, none⟩ = false ∧ q < w.heap.size :=
  ⟨h.1 0 (by omega), h.1 1 (by omega), h.1 2 (by omega), h.2.1 1, h.2.1 2, h.2.2⟩
theorem rdr_at {w : World} {q n c : Nat} {A : Option Addr} {p e : Int} (h : Row w q 3 (RdrF A n c p e)) (x : Int) : Row (w.setCell ⟨q, 1, none⟩ (.int .i64 x)) q 3 (RdrF A n c x e) := by
  refine (h.set 1 _).congr fun j hj => ?_
  have hh : j = 0 ∨ j = 1 ∨ j = 2 := by omega
  rcases hh with rfl | rfl | rfl <;> rfl
theorem rdr_e {w : World} {q n c : Nat} {A : Option Addr} {p e : Int} (h : Row w q 3 (RdrF A n c p e)) (x : Int) : Row (w.setCell ⟨q, 2, none⟩ (.int .i64 x)) q 3 (RdrF A n c p x) := by
  refine (h.set 2 _).congr fun j hj => ?_
  have hh : j = 0 ∨ j = 1 ∨ j = 2 := by omega
  rcases hh with rfl | rfl | rfl <;> rfl
/-- Where a reader stands: it has failed, or has read just up to x. -/
def StR (n x : Nat) (E0 p E : Int) : Prop := (E = E0 ∧ E0 ≠ 0 ∧ (E0 = 3 → n < x)) ∨ (E = 0 ∧ E0 = 3 ∧ p = (x : Int) ∧ x ≤ n)
end Go.Proofs.Ytcjjcjpkmjbfkaa

/-
  Slices of slices of bytes, as they read.
-/
namespace Go.Proofs.Ytcjjcjpkmjbfkaa
open Go.RowKit Go.ChangeShapes Go.WideShapes Go.Deep
set_option linter.unusedVariables false
set_option linter.unusedSimpArgs false

/-- Rows of bytes as they read, in blocks below B. -/
def RdBL (w : World) (B : Nat) (A : Option Addr) (GG : List (List Int)) : Prop :=
  ∃ hs : List Hd, hs.length = GG.length ∧ RdG 1 hdL w B A hs ∧ ∀ (j : Nat) h L, hs[j]? = some h → GG[j]? = some L → h.n = L.length ∧ h.n ≤ h.c ∧ RdB w B h.A L
section
variable {w w' : World} {B B' : Nat} {A : Option Addr} {GG : List (List Int)}
theorem RdBL.keep (h : RdBL w B A GG) (hk : ∀ b o, b < B → w'.cell? ⟨b, o, none⟩ = w.cell? ⟨b, o, none⟩) : RdBL w' B A GG := by
  obtain ⟨hs, hl, hr, hK⟩ := h
  exact ⟨hs, hl, hr.keep hk, fun j x L h1 h2 => ⟨(hK j x L h1 h2).1, (hK j x L h1 h2).2.1, (hK j x L h1 h2).2.2.keep hk⟩⟩
theorem RdBL.more (h : RdBL w B A GG) (hB : B ≤ B') : RdBL w B' A GG := by
  obtain ⟨hs, hl, hr, hK⟩ := h
  exact ⟨hs, hl, hr.more hB, fun j x L h1 h2 => ⟨(hK j x L h1 h2).1, (hK j x L h1 h2).2.1, (hK j x L h1 h2).2.2.more hB⟩⟩
theorem RdBL.on (h : RdBL w w.heap.size A GG) (k : Since w w') : RdBL w' w'.heap.size A GG := (h.keep fun b o hb => k.1 b o hb).more k.below.size
theorem RdBL.nigh {q : Nat} (h : RdBL w B A GG) (k : Nigh q w w') (hB : B ≤ q) (hq : q < w.heap.size) : RdBL w' B A GG := h.keep fun b o hb => by
  have e := k.1.2 b (by omega) (by omega)
  simp only [World.cell?, e]
theorem RdBL.nil : RdBL w B none [] := ⟨[], rfl, RdG.nil, fun j h L h1 h2 => by simp at h1⟩
/-- One row's cells. -/
theorem RdBL.row (h : RdBL w B A GG) {j : Nat} {L : List Int} (hj : GG[j]? = some L) : ∃ b o A' c', A = some ⟨b, o, none⟩ ∧ b < B ∧ w.cell? ⟨b, o + j, none⟩ = some (.slice A' L.length c') ∧ L.length ≤ c' ∧ RdB w B A' L := by
  obtain ⟨hs, hl, hr, hK⟩ := h
  have hjl : j < hs.length := by
    rw [hl]
    rcases Nat.lt_or_ge j GG.length with h | h
    · exact h
    · rw [List.getElem?_eq_none h] at hj; cases hj
  obtain ⟨b, o, rfl, hb, hc⟩ := hr (by omega)
  have h1 : hs[j]? = some hs[j] := List.getElem?_eq_getElem hjl
  obtain ⟨e1, e2, h2⟩ := hK j _ L h1 hj
  have h3 := hc j _ h1 0 (by omega)
  rw [Nat.add_zero, Nat.mul_one] at h3
  exact ⟨b, o, hs[j].A, hs[j].c, rfl, hb, by rw [h3, ← e1]; rfl, by omega, h2⟩
end
end Go.Proofs.Ytcjjcjpkmjbfkaa

/-
  A box of three cells and no more: a slice, two numbers.
-/
namespace Go.Proofs.Ytcjjcjpkmjbfkaa
open Go.RowKit Go.ChangeShapes Go.WideShapes Go.Deep
set_option linter.unusedVariables false
set_option linter.unusedSimpArgs false

def BoxX (w : World) (q : Nat) (F : Nat → Value) : Prop := Row w q 3 F ∧ ∀ j, 3 ≤ j → w.cell? ⟨q, j, none⟩ = none
section
variable {w w' : World} {q : Nat} {F : Nat → Value}
theorem BoxX.row (h : BoxX w q F) : Row w q 3 F := h.1
theorem BoxX.lt (h : BoxX w q F) : q < w.heap.size := h.1.2.2
theorem BoxX.since (h : BoxX w q F) (k : Since w w') : BoxX w' q F := ⟨h.1.since k, fun j hj => (k.1 _ _ h.lt).trans (h.2 j hj)⟩
theorem BoxX.far (h : BoxX w q F) {b : Nat} (hb : b ≠ q) (o : Nat) (v : Value) : BoxX (w.setCell ⟨b, o, none⟩ v) q F := ⟨h.1.far hb o v, fun j hj => by rw [cell_set, if_neg (fun e => hb e.1)]; exact h.2 j hj⟩
theorem BoxX.at {A : Option Addr} {n c : Nat} {p e : Int} (h : BoxX w q (RdrF A n c p e)) (x : Int) : BoxX (w.setCell ⟨q, 1, none⟩ (.int .i64 x)) q (RdrF A n c x e) := ⟨rdr_at h.1 x, fun j hj => by rw [cell_set, if_neg (fun e => by have := e.2; omega)]; exact h.2 j hj⟩
theorem BoxX.er {A : Option Addr} {n c : Nat} {p e : Int} (h : BoxX w q (RdrF A n c p e)) (x : Int) : BoxX (w.setCell ⟨q, 2, none⟩ (.int .i64 x)) q (RdrF A n c p x) := ⟨rdr_e h.1 x, fun j hj => by rw [cell_set, if_neg (fun e => by have := e.2; omega)]; exact h.2 j hj⟩
theorem BoxX.drew (h : BoxX w q F) : BoxX w.drew q F := h
end
theorem boxx_new (w : World) (b : Nat) (hb : b = w.heap.size) (t : TypeId) (A : Option Addr) (n c : Nat) : BoxX (w.alloc (.cells #[.slice A n c, .int .i64 0, .int .i64 0] t)) b (RdrF A n c 0 0) := by
  refine ⟨rdr_new w b hb t A n c, fun j hj => ?_⟩
  subst hb
  rw [World.cell?_alloc_new]
  exact Array.getElem?_eq_none (by simpa using hj)
end Go.Proofs.Ytcjjcjpkmjbfkaa

/-
  Layer 7: writeStep, walked.
-/
namespace Go.Proofs.Ytcjjcjpkmjbfkaa
open Go.RowKit Go.ChangeShapes Go.WideShapes Go.Deep
set_option linter.unusedVariables false
set_option linter.unusedSimpArgs false

theorem putL_one {d : Int} (h0 : 0 ≤ d) (h1 : d < 256) : putL d 1 = [d] := by
  have e : byteOf d 1 0 = d := by unfold byteOf; simp; omega
  have e2 : putL d 1 = [byteOf d 1 0] := rfl
  rw [e2, e]

end Go.Proofs.Ytcjjcjpkmjbfkaa

/-
  Layer 7: the reference's step, walked; a literal of bytes as an own row.
-/
namespace Go.Proofs.Ytcjjcjpkmjbfkaa
open Go.RowKit Go.ChangeShapes Go.WideShapes Go.Deep
set_option linter.unusedVariables false
set_option linter.unusedSimpArgs false

theorem ownB_new (w : World) (base b n : Nat) (hb : b = w.heap.size) (hB : base ≤ w.heap.size) (cs : Array Value) (L : List Int) (hn : n = L.length) (hcs : cs = (L.map (Value.int .u8)).toArray) (hL : L.length ≤ 1000) : OwnB (w.alloc (.cells cs 5)) base (.slice (some ⟨b, 0, none⟩) n n) L := by
  subst hb; subst hn; subst hcs
  have e : cellsG byL L = L.map (Value.int .u8) := by
    clear hL
    induction L with
    | nil => rfl
    | cons a l ih => unfold cellsG at ih ⊢; rw [List.flatMap_cons, List.map_cons, ih]; rfl
  exact ⟨by rw [cellsG_len byL_len], .inr ⟨w.heap.size, L.length, _, rfl, hB, heap_alloc_new w _, Nat.le_refl _, by simp only [maxLen]; omega, by simp, by rw [e, Nat.mul_one]; exact List.take_of_length_le (by simp)⟩⟩

set_option maxHeartbeats 4000000 in
theorem rf_step2 (d : Int) (w : World) (hd : -65535 ≤ d ∧ d ≤ 65535) :
    Calls Try.prog 25 #[.int .i64 d, .int .i64 2, .int .i64 16] w fun e w' => ∃ v, e = .returned (.tuple #[.int .i64 (sfl7 2 16 d), v]) ∧ OwnB w' w.heap.size v (stp7 d) ∧ Since w w' := by
  by_cases h0 : d = 0
  · subst h0
    have E := Lib.hid (show sfl7 2 16 0 = 16 from rfl)
    have F := Lib.hid (show stp7 0 = [] from rfl)
    clear hd
    go_enter Try.func25, Try.ntmps25
    go_wp2_with fail
    go_ret2
    rw [E.out, F.out]
    exact ⟨_, rfl, OwnG.nil _ _ _ _ _, Since.refl _⟩
  · have e0 : (d == 0) = false := by simpa using h0
    by_cases h1 : 0 < d ∧ d < 256
    · have E := Lib.hid (show sfl7 2 16 d = 18 by unfold sfl7; rw [if_neg h0, if_pos h1]; rfl)
      have F := Lib.hid (show stp7 d = [d] by unfold stp7; rw [if_neg h0, if_pos h1])
      have d1 : decide (0 < d) = true := by simpa using h1.1
      have d2 : decide (d < 256) = true := by simpa using h1.2
      have hw : IntKind.u8.wrap d = d := by rw [IntKind.wrap_u8]; omega
      clear hd h0 h1
      go_enter Try.func25, Try.ntmps25
      go_wp2_with fail
      go_ret2
      rw [E.out, F.out]
      exact ⟨_, by first | rfl | simp, ownB_new w _ _ 1 rfl (Nat.le_refl _) _ [d] rfl (by simp) (by simp), by (repeat (first | with_reducible (exact Since.refl _) | with_reducible assumption | with_reducible (refine Since.drew ?_) | with_reducible (refine Since.drewN ?_ _) | with_reducible (refine Since.alloc ?_ _) | (with_reducible (refine Since.setCell ?_ ?_ _); rotate_left; focus (first | (simp; done) | (simp; omega) | omega)) | (with_reducible (refine Since.trans ?_ (by with_reducible assumption)))))⟩
    · by_cases h2 : -256 < d ∧ d < 0
      · have E := Lib.hid (show sfl7 2 16 d = 2 by unfold sfl7; rw [if_neg h0, if_neg h1, if_pos h2])
        have F := Lib.hid (show stp7 d = [-d] by unfold stp7; rw [if_neg h0, if_neg h1, if_pos h2])
        have d1 : decide (0 < d) = false := by simp; omega
        have d2 : decide (d < 0) = true := by simpa using h2.2
        have d3 : decide (-256 < d) = true := by simpa using h2.1
        have hw : IntKind.i64.wrap (-d) = -d := by rw [IntKind.wrap_i64]; omega
        have hw2 : IntKind.u8.wrap (-d) = -d := by rw [IntKind.wrap_u8]; omega
        clear hd h0 h1 h2
        go_enter Try.func25, Try.ntmps25
        go_wp2_with fail
        go_ret2
        rw [E.out, F.out]
        exact ⟨_, by first | rfl | simp, ownB_new w _ _ 1 rfl (Nat.le_refl _) _ [-d] rfl (by simp) (by simp), by (repeat (first | with_reducible (exact Since.refl _) | with_reducible assumption | with_reducible (refine Since.drew ?_) | with_reducible (refine Since.drewN ?_ _) | with_reducible (refine Since.alloc ?_ _) | (with_reducible (refine Since.setCell ?_ ?_ _); rotate_left; focus (first | (simp; done) | (simp; omega) | omega)) | (with_reducible (refine Since.trans ?_ (by with_reducible assumption)))))⟩
      · have E := Lib.hid (show sfl7 2 16 d = 0 by unfold sfl7; rw [if_neg h0, if_neg h1, if_neg h2])
        have F := Lib.hid (show putL d 2 = stp7 d by unfold stp7; rw [if_neg h0, if_neg h1, if_neg h2])
        have hC := rput_o 2 d 2 w (by unfold In64; omega) rfl (by omega)
        by_cases h3 : 0 < d
        · have d1 : decide (0 < d) = true := by simpa using h3
          have d2 : decide (d < 256) = false := by simp; omega
          have d3 : decide (d < 0) = false := by simp; omega
          clear hd h0 h1 h2 h3
          go_enter Try.func25, Try.ntmps25
          go_wp2_with (go_at_call 26; (with_reducible refine hC.mono ?_); rintro e w2 ⟨g, rfl, hg, hO, hS⟩)
          go_ret2
          rw [E.out, ← F.out]
          exact ⟨_, by first | rfl | simp, hO, hS⟩
        · have d1 : decide (0 < d) = false := by simpa using h3
          have d2 : decide (d < 0) = true := by simp; omega
          have d3 : decide (-256 < d) = false := by simp; omega
          clear hd h0 h1 h2 h3
          go_enter Try.func25, Try.ntmps25
          go_wp2_with (go_at_call 26; (with_reducible refine hC.mono ?_); rintro e w2 ⟨g, rfl, hg, hO, hS⟩)
          go_ret2
          rw [E.out, ← F.out]
          exact ⟨_, by first | rfl | simp, hO, hS⟩

set_option maxHeartbeats 4000000 in
theorem rf_step4 (d : Int) (w : World) (hd : -65535 ≤ d ∧ d ≤ 65535) :
    Calls Try.prog 25 #[.int .i64 d, .int .i64 4, .int .i64 32] w fun e w' => ∃ v, e = .returned (.tuple #[.int .i64 (sfl7 4 32 d), v]) ∧ OwnB w' w.heap.size v (stp7 d) ∧ Since w w' := by
  by_cases h0 : d = 0
  · subst h0
    have E := Lib.hid (show sfl7 4 32 0 = 32 from rfl)
    have F := Lib.hid (show stp7 0 = [] from rfl)
    clear hd
    go_enter Try.func25, Try.ntmps25
    go_wp2_with fail
    go_ret2
    rw [E.out, F.out]
    exact ⟨_, rfl, OwnG.nil _ _ _ _ _, Since.refl _⟩
  · have e0 : (d == 0) = false := by simpa using h0
    by_cases h1 : 0 < d ∧ d < 256
    · have E := Lib.hid (show sfl7 4 32 d = 36 by unfold sfl7; rw [if_neg h0, if_pos h1]; rfl)
      have F := Lib.hid (show stp7 d = [d] by unfold stp7; rw [if_neg h0, if_pos h1])
      have d1 : decide (0 < d) = true := by simpa using h1.1
      have d2 : decide (d < 256) = true := by simpa using h1.2
      have hw : IntKind.u8.wrap d = d := by rw [IntKind.wrap_u8]; omega
      clear hd h0 h1
      go_enter Try.func25, Try.ntmps25
      go_wp2_with fail
      go_ret2
      rw [E.out, F.out]
      exact ⟨_, by first | rfl | simp, ownB_new w _ _ 1 rfl (Nat.le_refl _) _ [d] rfl (by simp) (by simp), by (repeat (first | with_reducible (exact Since.refl _) | with_reducible assumption | with_reducible (refine Since.drew ?_) | with_reducible (refine Since.drewN ?_ _) | with_reducible (refine Since.alloc ?_ _) | (with_reducible (refine Since.setCell ?_ ?_ _); rotate_left; focus (first | (simp; done) | (simp; omega) | omega)) | (with_reducible (refine Since.trans ?_ (by with_reducible assumption)))))⟩
    · by_cases h2 : -256 < d ∧ d < 0
      · have E := Lib.hid (show sfl7 4 32 d = 4 by unfold sfl7; rw [if_neg h0, if_neg h1, if_pos h2])
        have F := Lib.hid (show stp7 d = [-d] by unfold stp7; rw [if_neg h0, if_neg h1, if_pos h2])
        have d1 : decide (0 < d) = false := by simp; omega
        have d2 : decide (d < 0) = true := by simpa using h2.2
        have d3 : decide (-256 < d) = true := by simpa using h2.1
        have hw : IntKind.i64.wrap (-d) = -d := by rw [IntKind.wrap_i64]; omega
        have hw2 : IntKind.u8.wrap (-d) = -d := by rw [IntKind.wrap_u8]; omega
        clear hd h0 h1 h2
        go_enter Try.func25, Try.ntmps25
        go_wp2_with fail
        go_ret2
        rw [E.out, F.out]
        exact ⟨_, by first | rfl | simp, ownB_new w _ _ 1 rfl (Nat.le_refl _) _ [-d] rfl (by simp) (by simp), by (repeat (first | with_reducible (exact Since.refl _) | with_reducible assumption | with_reducible (refine Since.drew ?_) | with_reducible (refine Since.drewN ?_ _) | with_reducible (refine Since.alloc ?_ _) | (with_reducible (refine Since.setCell ?_ ?_ _); rotate_left; focus (first | (simp; done) | (simp; omega) | omega)) | (with_reducible (refine Since.trans ?_ (by with_reducible assumption)))))⟩
      · have E := Lib.hid (show sfl7 4 32 d = 0 by unfold sfl7; rw [if_neg h0, if_neg h1, if_neg h2])
        have F := Lib.hid (show putL d 2 = stp7 d by unfold stp7; rw [if_neg h0, if_neg h1, if_neg h2])
        have hC := rput_o 2 d 2 w (by unfold In64; omega) rfl (by omega)
        by_cases h3 : 0 < d
        · have d1 : decide (0 < d) = true := by simpa using h3
          have d2 : decide (d < 256) = false := by simp; omega
          have d3 : decide (d < 0) = false := by simp; omega
          clear hd h0 h1 h2 h3
          go_enter Try.func25, Try.ntmps25
          go_wp2_with (go_at_call 26; (with_reducible refine hC.mono ?_); rintro e w2 ⟨g, rfl, hg, hO, hS⟩)
          go_ret2
          rw [E.out, ← F.out]
          exact ⟨_, by first | rfl | simp, hO, hS⟩
        · have d1 : decide (0 < d) = false := by simpa using h3
          have d2 : decide (d < 0) = true := by simp; omega
          have d3 : decide (-256 < d) = false := by simp; omega
          clear hd h0 h1 h2 h3
          go_enter Try.func25, Try.ntmps25
          go_wp2_with (go_at_call 26; (with_reducible refine hC.mono ?_); rintro e w2 ⟨g, rfl, hg, hO, hS⟩)
          go_ret2
          rw [E.out, ← F.out]
          exact ⟨_, by first | rfl | simp, hO, hS⟩

end Go.Proofs.Ytcjjcjpkmjbfkaa

/-
  Layer 7: the reference's reader, walked (as CoG's, of layer 8).
-/
namespace Go.Proofs.Ytcjjcjpkmjbfkaa
open Go.RowKit Go.ChangeShapes Go.WideShapes Go.Deep
set_option linter.unusedVariables false
set_option linter.unusedSimpArgs false

/-- What 'u' leaves. -/
def RuPost7 (q : Nat) (A : Option Addr) (n c : Nat) (f : Nat → Int) (x m : Nat) (E0 : Int) (w : World) (e : Ending) (w' : World) : Prop :=
  ∃ v p E, e = .returned (.int .i64 v) ∧ Row w' q 3 (RdrF A n c p E) ∧ Nigh q w w' ∧ StR n (x + m) E0 p E ∧ (E = 0 → v = numAt f x m) ∧ (E ≠ 0 → v = 0)
set_option maxRecDepth 100000 in
set_option maxHeartbeats 8000000 in
theorem rf_u7 (q : Nat) (A : Option Addr) (n c : Nat) (f : Nat → Int) (x m : Nat) (y E0 p E : Int) (w : World) (hR : Row w q 3 (RdrF A n c p E)) (h : Rd w w.heap.size A n (U8 f)) (hf : ∀ j, j < n → 0 ≤ f j ∧ f j ≤ 255) (hy : y = m) (hm : 1 ≤ m ∧ m ≤ 4) (hx : x ≤ 140737488455328) (hn : n ≤ 140737488355328) (hst : StR n x E0 p E) :
    Calls Try.prog 46 #[.pointer (some ⟨q, 0, none⟩), .int .i64 y] w (RuPost7 q A n c f x m E0 w) := by
  subst hy
  obtain ⟨c0, c1, c2, f1, f2, hq⟩ := rdr_cells hR
  have hm1 : (m : Int) ≤ 4 := by omega
  have hm0 : (1 : Int) ≤ m := by omega
  rcases hst with ⟨rfl, h0, h3⟩ | ⟨rfl, rfl, rfl, hxn⟩
  · have d0 : (E == 0) = false := by simpa using h0
    have H1 : RuPost7 q A n c f x m E w (.returned (.int .i64 0)) w := ⟨0, p, E, rfl, hR, Nigh.refl _ _, .inl ⟨rfl, h0, fun e => by have := h3 e; omega⟩, fun e => absurd e h0, fun _ => rfl⟩
    have HH := Lib.hid H1
    clear H1 h h3 hf hR
    go_enter Try.func46, Try.ntmps46
    go_wp2_with fail
    go_ret
    exact HH.out
  · have hxi : (x : Int) ≤ 140737488455328 := by omega
    have hx0 : (0 : Int) ≤ x := by omega
    by_cases hfit : x + m ≤ n
    · have hC := fun w2 h2 => ru_in A n c f x m x m w2 h2 hf rfl rfl hm hfit (by omega)
      have H1 : ∀ k, RuPost7 q A n c f x m 3 w (.returned (.int .i64 (numAt f x m))) ((w.drewN k).setCell ⟨q, 1, none⟩ (.int .i64 ((x : Int) + m))) := fun k => ⟨_, _, 0, rfl, rdr_at (hR.drewN k) _, ((Nigh.refl q w).drewN k).set _ _, .inr ⟨rfl, rfl, by omega, hfit⟩, fun _ => rfl, fun e => absurd rfl e⟩
      generalize hv : numAt f x m = v at *
      have HH := Lib.hid H1
      have HC := Lib.hid hC
      clear H1 hf hR hv hC
      go_enter Try.func46, Try.ntmps46
      go_wp2_with fail
      go_quiet ((go_at_call 62; exact Calls.quiet_of_same (HC.out _ (h.drewN _))))
      go_wp2_with fail
      go_ret
      exact HH.out nq
    · have hC := fun w2 h2 => ru_out A n c f x m x m w2 h2 hf rfl rfl hm (by omega) (by omega) (by omega)
      have H1 : ∀ k, RuPost7 q A n c f x m 3 w (.returned (.int .i64 0)) ((w.drewN k).setCell ⟨q, 2, none⟩ (.int .i64 3)) := fun k => ⟨_, _, 3, rfl, rdr_e (hR.drewN k) _, ((Nigh.refl q w).drewN k).set _ _, .inl ⟨rfl, by omega, fun _ => by omega⟩, fun e => absurd e (by omega), fun _ => rfl⟩
      have HH := Lib.hid H1
      have HC := Lib.hid hC
      clear H1 hf hR hC
      go_enter Try.func46, Try.ntmps46
      go_wp2_with fail
      go_quiet ((go_at_call 62; exact Calls.quiet_of_same (HC.out _ (h.drewN _))))
      go_wp2_with fail
      go_ret
      exact HH.out nq
/-- What 's' leaves. -/
def RsPost7 (q : Nat) (A : Option Addr) (n c : Nat) (f : Nat → Int) (x : Nat) (E0 : Int) (w : World) (e : Ending) (w' : World) : Prop :=
  ∃ v p E, e = .returned (.int .i64 v) ∧ Row w' q 3 (RdrF A n c p E) ∧ Nigh q w w' ∧ StR n (x + 2) E0 p E ∧ (E = 0 → v = sgn 2 (numAt f x 2)) ∧ (-32768 ≤ v ∧ v ≤ 32767) ∧ (E ≠ 0 → v = 0)
set_option maxRecDepth 100000 in
set_option maxHeartbeats 8000000 in
theorem rf_s7 (q : Nat) (A : Option Addr) (n c : Nat) (f : Nat → Int) (x : Nat) (E0 p E : Int) (w : World) (hR : Row w q 3 (RdrF A n c p E)) (h : Rd w w.heap.size A n (U8 f)) (hf : ∀ j, j < n → 0 ≤ f j ∧ f j ≤ 255) (hx : x ≤ 140737488455328) (hn : n ≤ 140737488355328) (hst : StR n x E0 p E) :
    Calls Try.prog 45 #[.pointer (some ⟨q, 0, none⟩)] w (RsPost7 q A n c f x E0 w) := by
  have hC := rf_u7 q A n c f x 2 2 E0 p E w hR h hf rfl (by omega) hx hn hst
  have hrange : x + 2 ≤ n → 0 ≤ numAt f x 2 ∧ numAt f x 2 < 65536 := fun hx2 => by
    have := numAt_range (f := f) (p := x) (k := 2) (fun j hj => hf j (by omega))
    simpa using this
  have K : ∀ v p' E' w', Row w' q 3 (RdrF A n c p' E') → Nigh q w w' → StR n (x + 2) E0 p' E' → (E' = 0 → v = numAt f x 2) → (E' ≠ 0 → v = 0) → (0 ≤ v ∧ v < 65536) ∧ (32768 ≤ v → RsPost7 q A n c f x E0 w (.returned (.int .i64 (v - 65536))) w') ∧ (¬ 32768 ≤ v → RsPost7 q A n c f x E0 w (.returned (.int .i64 v)) w') := by
    intro v p' E' w' k1 k2 k3 k4 k5
    by_cases e : E' = 0
    · have hfit : x + 2 ≤ n := by
        rcases k3 with ⟨a, b, _⟩ | ⟨_, _, _, b⟩
        · exact absurd (a.symm.trans e) b
        · exact b
      have hr := hrange hfit
      have hv := k4 e
      have hs : sgn 2 (numAt f x 2) = if 65536 ≤ 2 * numAt f x 2 then numAt f x 2 - 65536 else numAt f x 2 := by unfold sgn; simp only [Int.reducePow]
      rw [← hv] at hs hr
      refine ⟨hr, fun hg => ?_, fun hg => ?_⟩
      · rw [if_pos (by omega)] at hs
        exact ⟨_, p', E', rfl, k1, k2, k3, fun _ => by rw [← hv]; exact hs.symm, by omega, fun h => absurd e h⟩
      · rw [if_neg (by omega)] at hs
        exact ⟨_, p', E', rfl, k1, k2, k3, fun _ => by rw [← hv]; exact hs.symm, by omega, fun h => absurd e h⟩
    · have hv := k5 e
      exact ⟨by omega, fun h => absurd h (by omega), fun _ => ⟨_, p', E', rfl, k1, k2, k3, fun h => absurd h e, by omega, fun _ => hv⟩⟩
  have HK := Lib.hid K
  clear hR h hf hst K hrange
  go_enter Try.func45, Try.ntmps45
  go_wp2_with (go_at_call 46; (with_reducible refine hC.mono ?_); rintro e w2 ⟨v, p', E', rfl, k1, k2, k3, k4, k5⟩; obtain ⟨hvr, hv1, hv2⟩ := HK.out v p' E' w2 k1 k2 k3 k4 k5; have HV1 := Lib.hid hv1; have HV2 := Lib.hid hv2; clear hv1 hv2 k1 k2 k3 k4 k5)
  all_goals go_ret
  · exact HV1.out (by assumption)
  · exact HV2.out (by omega)
end Go.Proofs.Ytcjjcjpkmjbfkaa

/-
  Layer 7: the reference's 'fail', walked.
-/
namespace Go.Proofs.Ytcjjcjpkmjbfkaa
open Go.RowKit Go.ChangeShapes Go.WideShapes Go.Deep
set_option linter.unusedVariables false
set_option linter.unusedSimpArgs false

/-- What 'fail' leaves. -/
def RfPost7 (q : Nat) (A : Option Addr) (n c : Nat) (p E x : Int) (w : World) (e : Ending) (w' : World) : Prop :=
  e = .returned (.tuple #[]) ∧ Row w' q 3 (RdrF A n c p (if E = 0 then x else E)) ∧ Nigh q w w'
set_option maxRecDepth 100000 in
set_option maxHeartbeats 8000000 in
theorem rf_fail7 (q : Nat) (A : Option Addr) (n c : Nat) (p E x : Int) (w : World) (hR : Row w q 3 (RdrF A n c p E)) :
    Calls Try.prog 63 #[.pointer (some ⟨q, 0, none⟩), .int .i64 x] w (RfPost7 q A n c p E x w) := by
  obtain ⟨c0, c1, c2, f1, f2, hq⟩ := rdr_cells hR
  by_cases h0 : E = 0
  · subst h0
    have H1 : RfPost7 q A n c p 0 x w (.returned (.tuple #[])) (w.setCell ⟨q, 2, none⟩ (.int .i64 x)) := ⟨rfl, by rw [if_pos rfl]; exact rdr_e hR x, (Nigh.refl q w).set _ _⟩
    have HH := Lib.hid H1
    clear H1 hR
    go_enter Try.func63, Try.ntmps63
    go_wp2_with fail
    first | go_end0 | (refine bodyPost_ret (results_none rfl _ _ _) rfl ?_)
    exact HH.out
  · have d0 : (E == 0) = false := by simpa using h0
    have H1 : RfPost7 q A n c p E x w (.returned (.tuple #[])) w := ⟨rfl, by rw [if_neg h0]; exact hR, Nigh.refl q w⟩
    have HH := Lib.hid H1
    clear H1 hR
    go_enter Try.func63, Try.ntmps63
    go_wp2_with fail
    first | go_end0 | (refine bodyPost_ret (results_none rfl _ _ _) rfl ?_)
    exact HH.out
end Go.Proofs.Ytcjjcjpkmjbfkaa
