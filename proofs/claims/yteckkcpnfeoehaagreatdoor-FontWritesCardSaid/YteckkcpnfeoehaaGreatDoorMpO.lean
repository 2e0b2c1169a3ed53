/-
  Texts of this seat, put together: each with its own head.
-/
import Derived.Test.YteckkcpnfeoehaaGreatDoorMpL
import Derived.Test.YteckkcpnfeoehaaGreatDoorMnAd
import Derived.Lib.LazyBuf
import Derived.Laws.StructEq

/-
  Layer 5: 'PutHead' of the program, walked.
-/
namespace Go.Proofs.YteckkcpnfeoehaaGreatDoor
set_option maxRecDepth 100000
open Go.RowKit
set_option linter.unusedVariables false

end Go.Proofs.YteckkcpnfeoehaaGreatDoor

/-
  copy of a string's bytes into an own row.
-/
namespace Go.Proofs.YteckkcpnfeoehaaGreatDoor
set_option maxRecDepth 100000
open Go.RowKit
set_option linter.unusedVariables false

def overV (off : Nat) (vs : List Value) (V : Nat → Value) (j : Nat) : Value := if off ≤ j ∧ j < off + vs.length then vs.getD (j - off) undef else V j
theorem row_setCells {g n : Nat} : ∀ (vs : List Value) (off : Nat) (w : World) (V : Nat → Value), Row w g n V → Row (w.setCells g off vs) g n (overV off vs V)
  | [], off, w, V, h => h.congr (fun j _ => by unfold overV; rw [if_neg (fun hh => by simp at hh; omega)])
  | v :: r, off, w, V, h => by
    refine (row_setCells r (off + 1) (w.setCell ⟨g, off, none⟩ v) _ (h.set off v)).congr (fun j _ => ?_)
    unfold overV
    show (if _ then _ else (if j = off then v else V j)) = _
    by_cases h1 : j = off
    · subst h1
      rw [if_neg (by omega), if_pos rfl, if_pos (by simp), Nat.sub_self]
      rfl
    · by_cases h2 : off + 1 ≤ j ∧ j < off + 1 + r.length
      · rw [if_pos h2, if_pos (by simp; omega), show j - off = (j - (off + 1)) + 1 by omega]
        simp
      · rw [if_neg h2, if_neg h1, if_neg (by simp; omega)]
theorem since_setCells {w0 : World} {g : Nat} (hg : w0.heap.size ≤ g) : ∀ (vs : List Value) (off : Nat) (w : World), Since w0 w → Since w0 (w.setCells g off vs)
  | [], _, _, h => h
  | v :: r, off, w, h => since_setCells hg r (off + 1) _ (h.setCell (by exact hg) v)
section
variable {P : Program} {w : World}
theorem wpList_copy_str {ops : Array Oper} {rest : List Oper} {o : Oper} {a : Act} {Q : Exit → Act → World → Prop} (hgd : o.guard = none) (d x : Operand) (dT sT : TypeId)
    (ho : o.op = .call { callee := .builtin .copy, args := #[d, x], argTypes := #[dT, sT] }) (elem : TypeId) (hu : P.underlying dT = some (.slice elem)) (hsz : (P.info? elem).map (·.size) = some 1)
    (g off dLen dCap n : Nat) (V : Nat → Value) (t : ByteArray) (hd : a.eval d = .slice (some ⟨g, off, none⟩) dLen dCap) (hx : a.eval x = .string t) (hr : Row w g n V) (hle : t.size ≤ dLen) (hfit : off + t.size ≤ n)
    (w0 : World) (hS : Since w0 w) (hB : w0.heap.size ≤ g)
    (h : ∀ w', Row w' g n (overV off (t.data.toList.map fun x => Value.int .u8 (x.toNat : Int)) V) → Since w0 w' → wpList P ops Q rest (a.put o.dst (goInt t.size)) w') :
    wpList P ops Q (o :: rest) a w := by
  refine wpList_plain hgd fun K hK => ?_
  have hz : ∀ w, (Go.sizeOf elem).run P w = .ok 1 w := by
    intro w
    cases hq : P.info? elem with
    | none => simp [hq] at hsz
    | some i =>
      simp [hq] at hsz
      simp [sizeOf, typeInfo, hq, hsz]
  have hrun := run_copy_string (P := P) w dT sT o.type elem g off dLen dCap t hu hz hle (fun j hj => by rw [hr.1 (off + j) (by omega)]; rfl) (fun j hj => hr.2.1 _)
  unfold Oper.wp execOp
  simp only [ho, resolve, invoke, builtin, Sem.run_bind, Sem.run_pure, Result.andThen_ok, List.map_toArray, List.map_cons, List.map_nil, hd, hx, hrun]
  exact hK _ _ (h _ (row_setCells _ _ _ _ hr) (since_setCells hB _ _ _ hS))
end
end Go.Proofs.YteckkcpnfeoehaaGreatDoor

/-
  Layer 5: the document's examples.
-/
namespace Go.Proofs.YteckkcpnfeoehaaGreatDoor
set_option maxRecDepth 100000
open Go.RowKit
set_option linter.unusedVariables false

end Go.Proofs.YteckkcpnfeoehaaGreatDoor

/-
  Layer 5: the reference's 'PutMaxp', walked.
-/
namespace Go.Proofs.YteckkcpnfeoehaaGreatDoor
set_option maxRecDepth 100000
open Go.RowKit
set_option linter.unusedVariables false

end Go.Proofs.YteckkcpnfeoehaaGreatDoor

/-
  Layer 5: the reference's 'PutHead', walked.
-/
namespace Go.Proofs.YteckkcpnfeoehaaGreatDoor
set_option maxRecDepth 100000
open Go.RowKit
set_option linter.unusedVariables false

end Go.Proofs.YteckkcpnfeoehaaGreatDoor

/-
  Layer 5: the laws HeadReads, HeadMaxps, walked.
-/
namespace Go.Proofs.YteckkcpnfeoehaaGreatDoor
set_option maxRecDepth 100000
open Go.RowKit
set_option linter.unusedVariables false

theorem eq_hd (w : World) (a b c d e : Int) (l : Bool) : (Op.equalIn 10000 24 (.agg #[.int .i64 a, .int .i64 b, .int .i64 c, .int .i64 d, .int .i64 e, .bool l]) (.agg #[.int .i64 a, .int .i64 b, .int .i64 c, .int .i64 d, .int .i64 e, .bool l])).run Tryz.prog w = .ok true w := by
  rw [run_equalIn_struct w 9999 24 _ _ (by kernel_rfl) (by kernel_rfl)]
  have heq : ∀ (d : Nat) (a b : Int) (w : World), (Op.equalIn (d + 1) 3 (.int .i64 a) (.int .i64 b)).run Tryz.prog w = .ok (a == b) w := fun d a b w => run_equalIn_int w d _ _ _ a b Tryz.underlying3
  have heqb : ∀ (d : Nat) (a b : Bool) (w : World), (Op.equalIn (d + 1) 4 (.bool a) (.bool b)).run Tryz.prog w = .ok (a == b) w := fun d a b w => by simp [Op.equalIn, run_underlying Tryz.underlying4]
  have hc : Tryz.prog.cellsOf 3 = 1 := by kernel_rfl
  have hcb : Tryz.prog.cellsOf 4 = 1 := by kernel_rfl
  simp only [Program.fieldsOf, Tryz.underlying24]
  simp [go_sem]
theorem eq_mx (w : World) (a b c d e g i : Int) : (Op.equalIn 10000 26 (.agg #[.int .i64 a, .int .i64 b, .int .i64 c, .int .i64 d, .int .i64 e, .int .i64 g, .int .i64 i]) (.agg #[.int .i64 a, .int .i64 b, .int .i64 c, .int .i64 d, .int .i64 e, .int .i64 g, .int .i64 i])).run Tryz.prog w = .ok true w := by
  rw [run_equalIn_struct w 9999 26 _ _ (by kernel_rfl) (by kernel_rfl)]
  have heq : ∀ (d : Nat) (a b : Int) (w : World), (Op.equalIn (d + 1) 3 (.int .i64 a) (.int .i64 b)).run Tryz.prog w = .ok (a == b) w := fun d a b w => run_equalIn_int w d _ _ _ a b Tryz.underlying3
  have hc : Tryz.prog.cellsOf 3 = 1 := by kernel_rfl
  simp only [Program.fieldsOf, Tryz.underlying26]
  simp [go_sem]
attribute [go_sem] eq_hd eq_mx
def SixB (w : World) (b : Nat) (v0 v1 v2 v3 v4 v5 : Value) : Prop := b < w.heap.size ∧ w.cell? ⟨b, 0, none⟩ = some v0 ∧ w.cell? ⟨b, 1, none⟩ = some v1 ∧ w.cell? ⟨b, 2, none⟩ = some v2 ∧ w.cell? ⟨b, 3, none⟩ = some v3 ∧ w.cell? ⟨b, 4, none⟩ = some v4 ∧ w.cell? ⟨b, 5, none⟩ = some v5
theorem SixB.since {w w' : World} {b : Nat} {v0 v1 v2 v3 v4 v5 : Value} (h : SixB w b v0 v1 v2 v3 v4 v5) (k : Since w w') : SixB w' b v0 v1 v2 v3 v4 v5 := by
  obtain ⟨h0, h1, h2, h3, h4, h5, h6⟩ := h
  exact ⟨k.2.2.1 _ h0, (k.1 _ _ h0).trans h1, (k.1 _ _ h0).trans h2, (k.1 _ _ h0).trans h3, (k.1 _ _ h0).trans h4, (k.1 _ _ h0).trans h5, (k.1 _ _ h0).trans h6⟩
def SevenB (w : World) (b : Nat) (v0 v1 v2 v3 v4 v5 v6 : Value) : Prop := b < w.heap.size ∧ w.cell? ⟨b, 0, none⟩ = some v0 ∧ w.cell? ⟨b, 1, none⟩ = some v1 ∧ w.cell? ⟨b, 2, none⟩ = some v2 ∧ w.cell? ⟨b, 3, none⟩ = some v3 ∧ w.cell? ⟨b, 4, none⟩ = some v4 ∧ w.cell? ⟨b, 5, none⟩ = some v5 ∧ w.cell? ⟨b, 6, none⟩ = some v6
theorem SevenB.since {w w' : World} {b : Nat} {v0 v1 v2 v3 v4 v5 v6 : Value} (h : SevenB w b v0 v1 v2 v3 v4 v5 v6) (k : Since w w') : SevenB w' b v0 v1 v2 v3 v4 v5 v6 := by
  obtain ⟨h0, h1, h2, h3, h4, h5, h6, h7⟩ := h
  exact ⟨k.2.2.1 _ h0, (k.1 _ _ h0).trans h1, (k.1 _ _ h0).trans h2, (k.1 _ _ h0).trans h3, (k.1 _ _ h0).trans h4, (k.1 _ _ h0).trans h5, (k.1 _ _ h0).trans h6, (k.1 _ _ h0).trans h7⟩

end Go.Proofs.YteckkcpnfeoehaaGreatDoor
