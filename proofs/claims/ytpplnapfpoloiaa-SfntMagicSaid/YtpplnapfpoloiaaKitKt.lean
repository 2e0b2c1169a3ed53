/-
  Knots: as they read (by functions and as lists), and rows of them that a call has made.
-/
import Derived.Test.YtpplnapfpoloiaaKitH
import Derived.Laws.StructEq
namespace Go.Proofs.Ytpplnapfpoloiaa
open Go.RowKit Go.ChangeShapes Go.WideShapes Go.Deep
set_option linter.unusedVariables false

/-- A knot. -/
structure Kt where
  (x y : Int) (o : Bool)
def kAt (X Y : Nat → Int) (O : Nat → Bool) (j : Nat) : Kt := ⟨X j, Y j, O j⟩
/-- A slice's n knots, in a block below B (nil and empty let in). -/
def RdK (w : World) (B : Nat) (A : Option Addr) (n : Nat) (X Y : Nat → Int) (O : Nat → Bool) : Prop :=
  0 < n → ∃ b o, A = some ⟨b, o, none⟩ ∧ b < B ∧ ∀ j, j < n → w.cell? ⟨b, o + j * 3, none⟩ = some (.int .i64 (X j)) ∧ w.cell? ⟨b, o + j * 3 + 1, none⟩ = some (.int .i64 (Y j)) ∧ w.cell? ⟨b, o + j * 3 + 2, none⟩ = some (.bool (O j))
section
variable {w w' : World} {B B' n : Nat} {A : Option Addr} {X Y : Nat → Int} {O : Nat → Bool}
theorem RdK.zero : RdK w B A 0 X Y O := fun h => absurd h (by omega)
theorem RdK.keep (h : RdK w B A n X Y O) (hk : ∀ b o, b < B → w'.cell? ⟨b, o, none⟩ = w.cell? ⟨b, o, none⟩) : RdK w' B A n X Y O := fun hn => by
  obtain ⟨b, o, rfl, hb, hc⟩ := h hn
  exact ⟨b, o, rfl, hb, fun j hj => ⟨(hk _ _ hb).trans (hc j hj).1, (hk _ _ hb).trans (hc j hj).2.1, (hk _ _ hb).trans (hc j hj).2.2⟩⟩
theorem RdK.more (h : RdK w B A n X Y O) (hB : B ≤ B') : RdK w B' A n X Y O := fun hn => by
  obtain ⟨b, o, rfl, hb, hc⟩ := h hn
  exact ⟨b, o, rfl, by omega, hc⟩
theorem RdK.on (h : RdK w w.heap.size A n X Y O) (k : Since w w') : RdK w' w'.heap.size A n X Y O := (h.keep fun b o hb => k.1 b o hb).more k.below.size
end
def knL (k : Kt) : List Value := [.int .i64 k.x, .int .i64 k.y, .bool k.o]
theorem knL_len (k : Kt) : (knL k).length = 3 := rfl
theorem knL_one (k : Kt) : ∀ u ∈ knL k, u.oneCell' = true := by
  intro u hu
  simp only [knL, List.mem_cons, List.not_mem_nil, or_false] at hu
  rcases hu with rfl | rfl | rfl <;> rfl
theorem infoKn0 : (Try.prog.info? 76).map (fun i => (i.zero, i.size, i.bytes)) = some (some (.agg #[.int .i64 0, .int .i64 0, .bool false]), 3, 24) := by kernel_rfl
theorem infoKn : ∃ i z, Try.prog.info? 76 = some i ∧ i.zero = some z ∧ i.size = 3 ∧ i.bytes = 24 ∧ z.cells.size = 3 := by
  obtain ⟨i0, hi, hz0, hz1, hz2⟩ := info_parts infoKn0
  exact ⟨i0, _, hi, hz0, hz1, hz2, rfl⟩
abbrev OwnK (w : World) (base : Nat) (v : Value) (L : List Kt) : Prop := OwnG 76 3 knL w base v L
abbrev RdKl (w : World) (B : Nat) (A : Option Addr) (L : List Kt) : Prop := RdG 3 knL w B A L
theorem kn_one (w : World) (b : Nat) (hb : b = w.heap.size) (ty : TypeId) (k : Kt) : RdKl (w.alloc (.cells #[.int .i64 k.x, .int .i64 k.y, .bool k.o] ty)) (w.alloc (.cells #[.int .i64 k.x, .int .i64 k.y, .bool k.o] ty)).heap.size (some ⟨b, 0, none⟩) [k] :=
  rdG_one hb k (fun i hi => by
    have h : i = 0 ∨ i = 1 ∨ i = 2 := by omega
    rcases h with rfl | rfl | rfl <;> rfl)
/-- append of one knot, just built. -/
theorem wpList_append_kn {w : World} {ops : Array Oper} {rest : List Oper} {o : Oper} {a : Act} {Q : Exit → Act → World → Prop} (hgd : o.guard = none) (s x : Operand)
    (ho : o.op = .call { callee := .builtin .append, args := #[s, x], argTypes := #[70, 70] })
    (base : Nat) (v : Value) (L : List Kt) (hs : a.eval s = v) (hown : OwnK w base v L) (B b c : Nat) (p : Kt) (hx : a.eval x = .slice (some ⟨b, 0, none⟩) 1 c) (hp : RdKl w B (some ⟨b, 0, none⟩) [p]) (hL : L.length ≤ 3000000) (hbase : base ≤ w.heap.size)
    (h : ∀ v' w', OwnK w' base v' (L ++ [p]) → w.grownBy w' v.ownBlock → (∀ q, v.ownBlock = some q → base ≤ q ∧ q < w.heap.size) → wpList Try.prog ops Q rest (a.put o.dst v') w') :
    wpList Try.prog ops Q (o :: rest) a w :=
  wpList_append_g hgd s x 70 76 ho (by omega) knL_len knL_one 24 Try.underlying70 infoKn base v L hs hown B _ c [p] hx hp (by simp only [List.length_cons, List.length_nil]; omega) (by simp only [List.length_cons, List.length_nil, maxLen]; omega) hbase h
def ktL (n : Nat) (X Y : Nat → Int) (O : Nat → Bool) : List Kt := (List.range n).map (kAt X Y O)
theorem ktL_len (n : Nat) (X Y : Nat → Int) (O : Nat → Bool) : (ktL n X Y O).length = n := by simp [ktL]
theorem ktL_get {n : Nat} {X Y : Nat → Int} {O : Nat → Bool} {j : Nat} (hj : j < n) : (ktL n X Y O)[j]? = some (kAt X Y O j) := by simp [ktL, hj]
theorem RdK.list {w : World} {B : Nat} {A : Option Addr} {n : Nat} {X Y : Nat → Int} {O : Nat → Bool} (h : RdK w B A n X Y O) : RdKl w B A (ktL n X Y O) := fun hn => by
  rw [ktL_len] at hn
  obtain ⟨b, o, rfl, hb, hc⟩ := h hn
  refine ⟨b, o, rfl, hb, fun j s hj i hi => ?_⟩
  have hjn : j < n := by
    rcases Nat.lt_or_ge j n with h | h
    · exact h
    · rw [List.getElem?_eq_none (by rw [ktL_len]; exact h)] at hj; cases hj
  rw [ktL_get hjn] at hj
  injection hj with hj
  subst hj
  obtain ⟨h1, h2, h3⟩ := hc j hjn
  have hh : i = 0 ∨ i = 1 ∨ i = 2 := by omega
  rcases hh with rfl | rfl | rfl <;> assumption
theorem RdK.of_list {w : World} {B : Nat} {A : Option Addr} {n : Nat} {X Y : Nat → Int} {O : Nat → Bool} (h : RdKl w B A (ktL n X Y O)) : RdK w B A n X Y O := fun hn => by
  obtain ⟨b, o, rfl, hb, hc⟩ := h (by rw [ktL_len]; exact hn)
  exact ⟨b, o, rfl, hb, fun j hj => ⟨hc j _ (ktL_get hj) 0 (by omega), hc j _ (ktL_get hj) 1 (by omega), hc j _ (ktL_get hj) 2 (by omega)⟩⟩
end Go.Proofs.Ytpplnapfpoloiaa
