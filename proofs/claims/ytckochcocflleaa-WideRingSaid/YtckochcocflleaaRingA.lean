/-
  WideRing's region that draws its order: three calls, three allocs, three stores, state by state. (written by mk01r.py)
-/
import Derived.Test.YtckochcocflleaaRingB
namespace Go.Proofs.Ytckochcocflleaa
open Go.RowKit
set_option linter.unusedVariables false

@[reducible] def ringO0 : Oper := { dst := some 15, op := Op.load 24 (Operand.tmp 3), type := 24, pos := "law.go:98", after := #[], guard := none }
@[reducible] def ringO1 : Oper := { dst := some 16, op := Op.call { callee := Callee.value (Operand.func 14), args := #[Operand.tmp 15], argTypes := #[24] }, type := 26, pos := "law.go:98", after := #[{ on := 0, ground := Ground.data }], guard := none }
@[reducible] def ringO2 : Oper := { dst := some 17, op := Op.load 24 (Operand.tmp 4), type := 24, pos := "law.go:98", after := #[], guard := none }
@[reducible] def ringO3 : Oper := { dst := some 18, op := Op.call { callee := Callee.value (Operand.func 14), args := #[Operand.tmp 17], argTypes := #[24] }, type := 26, pos := "law.go:98", after := #[{ on := 2, ground := Ground.data }, { on := 1, ground := Ground.chain }], guard := none }
@[reducible] def ringO4 : Oper := { dst := some 19, op := Op.load 24 (Operand.tmp 5), type := 24, pos := "law.go:98", after := #[], guard := none }
@[reducible] def ringO5 : Oper := { dst := some 20, op := Op.call { callee := Callee.value (Operand.func 14), args := #[Operand.tmp 19], argTypes := #[24] }, type := 26, pos := "law.go:98", after := #[{ on := 4, ground := Ground.data }, { on := 3, ground := Ground.chain }], guard := none }
@[reducible] def ringO6 : Oper := { dst := some 7, op := Op.alloc 26, type := 0, pos := "law.go:98", after := #[], guard := none }
@[reducible] def ringO7 : Oper := { dst := some 8, op := Op.alloc 26, type := 0, pos := "law.go:98", after := #[], guard := none }
@[reducible] def ringO8 : Oper := { dst := some 9, op := Op.alloc 26, type := 0, pos := "law.go:98", after := #[], guard := none }
@[reducible] def ringO9 : Oper := { dst := none, op := Op.store 26 (Operand.tmp 7) (Operand.tmp 16), type := 0, pos := "law.go:98", after := #[{ on := 6, ground := Ground.data }, { on := 1, ground := Ground.data }, { on := 5, ground := Ground.chain }, { on := 0, ground := Ground.phase }, { on := 1, ground := Ground.phase }, { on := 2, ground := Ground.textOnly Departure.lateStores }, { on := 3, ground := Ground.textOnly Departure.lateStoresUnsure }, { on := 4, ground := Ground.textOnly Departure.lateStores }, { on := 5, ground := Ground.textOnly Departure.lateStoresUnsure }, { on := 6, ground := Ground.phase }, { on := 7, ground := Ground.phase }, { on := 8, ground := Ground.phase }], guard := none }
@[reducible] def ringO10 : Oper := { dst := none, op := Op.store 26 (Operand.tmp 8) (Operand.tmp 18), type := 0, pos := "law.go:98", after := #[{ on := 7, ground := Ground.data }, { on := 3, ground := Ground.data }, { on := 9, ground := Ground.chain }, { on := 0, ground := Ground.phase }, { on := 1, ground := Ground.phase }, { on := 2, ground := Ground.phase }, { on := 3, ground := Ground.phase }, { on := 4, ground := Ground.textOnly Departure.lateStores }, { on := 5, ground := Ground.textOnly Departure.lateStoresUnsure }, { on := 6, ground := Ground.phase }, { on := 7, ground := Ground.phase }, { on := 8, ground := Ground.phase }, { on := 9, ground := Ground.phase }], guard := none }
@[reducible] def ringO11 : Oper := { dst := none, op := Op.store 26 (Operand.tmp 9) (Operand.tmp 20), type := 0, pos := "law.go:98", after := #[{ on := 8, ground := Ground.data }, { on := 5, ground := Ground.data }, { on := 10, ground := Ground.chain }, { on := 0, ground := Ground.phase }, { on := 1, ground := Ground.phase }, { on := 2, ground := Ground.phase }, { on := 3, ground := Ground.phase }, { on := 4, ground := Ground.phase }, { on := 5, ground := Ground.phase }, { on := 6, ground := Ground.phase }, { on := 7, ground := Ground.phase }, { on := 8, ground := Ground.phase }, { on := 9, ground := Ground.phase }, { on := 10, ground := Ground.phase }], guard := none }
@[reducible] def ringOps : Array Oper := #[{ dst := some 15, op := Op.load 24 (Operand.tmp 3), type := 24, pos := "law.go:98", after := #[], guard := none }, { dst := some 16, op := Op.call { callee := Callee.value (Operand.func 14), args := #[Operand.tmp 15], argTypes := #[24] }, type := 26, pos := "law.go:98", after := #[{ on := 0, ground := Ground.data }], guard := none }, { dst := some 17, op := Op.load 24 (Operand.tmp 4), type := 24, pos := "law.go:98", after := #[], guard := none }, { dst := some 18, op := Op.call { callee := Callee.value (Operand.func 14), args := #[Operand.tmp 17], argTypes := #[24] }, type := 26, pos := "law.go:98", after := #[{ on := 2, ground := Ground.data }, { on := 1, ground := Ground.chain }], guard := none }, { dst := some 19, op := Op.load 24 (Operand.tmp 5), type := 24, pos := "law.go:98", after := #[], guard := none }, { dst := some 20, op := Op.call { callee := Callee.value (Operand.func 14), args := #[Operand.tmp 19], argTypes := #[24] }, type := 26, pos := "law.go:98", after := #[{ on := 4, ground := Ground.data }, { on := 3, ground := Ground.chain }], guard := none }, { dst := some 7, op := Op.alloc 26, type := 0, pos := "law.go:98", after := #[], guard := none }, { dst := some 8, op := Op.alloc 26, type := 0, pos := "law.go:98", after := #[], guard := none }, { dst := some 9, op := Op.alloc 26, type := 0, pos := "law.go:98", after := #[], guard := none }, { dst := none, op := Op.store 26 (Operand.tmp 7) (Operand.tmp 16), type := 0, pos := "law.go:98", after := #[{ on := 6, ground := Ground.data }, { on := 1, ground := Ground.data }, { on := 5, ground := Ground.chain }, { on := 0, ground := Ground.phase }, { on := 1, ground := Ground.phase }, { on := 2, ground := Ground.textOnly Departure.lateStores }, { on := 3, ground := Ground.textOnly Departure.lateStoresUnsure }, { on := 4, ground := Ground.textOnly Departure.lateStores }, { on := 5, ground := Ground.textOnly Departure.lateStoresUnsure }, { on := 6, ground := Ground.phase }, { on := 7, ground := Ground.phase }, { on := 8, ground := Ground.phase }], guard := none }, { dst := none, op := Op.store 26 (Operand.tmp 8) (Operand.tmp 18), type := 0, pos := "law.go:98", after := #[{ on := 7, ground := Ground.data }, { on := 3, ground := Ground.data }, { on := 9, ground := Ground.chain }, { on := 0, ground := Ground.phase }, { on := 1, ground := Ground.phase }, { on := 2, ground := Ground.phase }, { on := 3, ground := Ground.phase }, { on := 4, ground := Ground.textOnly Departure.lateStores }, { on := 5, ground := Ground.textOnly Departure.lateStoresUnsure }, { on := 6, ground := Ground.phase }, { on := 7, ground := Ground.phase }, { on := 8, ground := Ground.phase }, { on := 9, ground := Ground.phase }], guard := none }, { dst := none, op := Op.store 26 (Operand.tmp 9) (Operand.tmp 20), type := 0, pos := "law.go:98", after := #[{ on := 8, ground := Ground.data }, { on := 5, ground := Ground.data }, { on := 10, ground := Ground.chain }, { on := 0, ground := Ground.phase }, { on := 1, ground := Ground.phase }, { on := 2, ground := Ground.phase }, { on := 3, ground := Ground.phase }, { on := 4, ground := Ground.phase }, { on := 5, ground := Ground.phase }, { on := 6, ground := Ground.phase }, { on := 7, ground := Ground.phase }, { on := 8, ground := Ground.phase }, { on := 9, ground := Ground.phase }, { on := 10, ground := Ground.phase }], guard := none }]
@[reducible] def ringAct (a b c : Int) (p0 p1 p2 x7 x8 x9 x15 x16 x17 x18 x19 x20 : Value) : Act := ⟨#[W a, W b, W c, p0, p1, p2, Value.bool false, x7, x8, x9, undef, undef, undef, Value.bool true, Value.bool false, x15, x16, x17, x18, x19, x20, undef, undef, undef, undef, undef, undef, undef, undef, undef, undef, undef, undef, undef, undef, undef, undef, undef, undef, undef, undef, undef, undef, undef, undef, undef, undef, undef, undef, undef, undef, undef, undef, undef, undef, undef, undef, undef, undef, undef, undef, undef, undef, undef, undef, undef, undef, undef, undef, undef, undef, undef, undef, undef, undef, undef, undef, undef, undef], []⟩
/-- What holds of the boxes all along. -/
def RingS (w : World) (a b c : Int) (wx : World) : Prop := Since w wx ∧ Row wx w.heap.size 2 (Wf a) ∧ Row wx (w.heap.size + 1) 2 (Wf b) ∧ Row wx (w.heap.size + 1 + 1) 2 (Wf c)
theorem RingS.alloc {w : World} {a b c : Int} {wx : World} (h : RingS w a b c wx) (o : Obj) : RingS w a b c (wx.alloc o) := ⟨h.1.alloc o, h.2.1.alloc o, h.2.2.1.alloc o, h.2.2.2.alloc o⟩
theorem RingS.since {w : World} {a b c : Int} {wx wy : World} (h : RingS w a b c wx) (k : Since wx wy) : RingS w a b c wy := ⟨h.1.trans k, h.2.1.since k, h.2.2.1.since k, h.2.2.2.since k⟩
theorem RingS.set {w : World} {a b c : Int} {wx : World} (h : RingS w a b c wx) {q : Nat} (hq : w.heap.size + 2 < q) (o : Nat) (v : Value) : RingS w a b c (wx.setCell ⟨q, o, none⟩ v) :=
  ⟨h.1.setCell (by show w.heap.size ≤ q; omega) v, h.2.1.far (by omega) o v, h.2.2.1.far (by omega) o v, h.2.2.2.far (by omega) o v⟩
/-- A block of the region's own, with what it holds. -/
def RingB (w wx : World) (q : Nat) (f : Nat → Value) : Prop := w.heap.size + 2 < q ∧ Row wx q 2 f
theorem RingB.since {w wx wy : World} {q : Nat} {f : Nat → Value} (h : RingB w wx q f) (k : Since wx wy) : RingB w wy q f := ⟨h.1, h.2.since k⟩
theorem RingB.alloc {w wx : World} {q : Nat} {f : Nat → Value} (h : RingB w wx q f) (o : Obj) : RingB w (wx.alloc o) q f := ⟨h.1, h.2.alloc o⟩
theorem RingB.far {w wx : World} {q r : Nat} {f : Nat → Value} (h : RingB w wx q f) (hr : r ≠ q) (o : Nat) (v : Value) : RingB w (wx.setCell ⟨r, o, none⟩ v) q f := ⟨h.1, h.2.far hr o v⟩
theorem RingS.new {w : World} {a b c : Int} {wx : World} (h : RingS w a b c wx) (t : TypeId) : RingB w (wx.alloc (.cells #[.int .i64 0, .int .u64 0] t)) wx.heap.size Zf := by
  refine ⟨?_, wzero wx _ rfl t⟩
  have := h.2.2.2.2.2
  omega
theorem RingB.put {w wx : World} {q : Nat} (h : RingB w wx q Zf) (n : Int) : RingB w ((wx.setCell ⟨q, 0, none⟩ (.int .i64 (hiW n))).setCell ⟨q, 1, none⟩ (.int .u64 (loW n))) q (Wf n) := ⟨h.1, wput h.2 n⟩
theorem RingB.ne {w wx : World} {q : Nat} {f : Nat → Value} (h : RingB w wx q f) : q ≠ wx.heap.size := Nat.ne_of_lt h.2.2.2
theorem RingB.cells {w wx : World} {q : Nat} {f : Nat → Value} (h : RingB w wx q f) : wx.cell? ⟨q, 0, none⟩ = some (f 0) ∧ wx.cell? ⟨q, 1, none⟩ = some (f 1) ∧ wx.frozen? ⟨q, 0, none⟩ = false ∧ wx.frozen? ⟨q, 1, none⟩ = false ∧ q < wx.heap.size := ⟨h.2.1 0 (by omega), h.2.1 1 (by omega), h.2.2.1 0, h.2.2.1 1, h.2.2.2⟩

set_option maxRecDepth 100000

theorem ring_3_012_3 {Q : Exit → Act → World → Prop} (a b c : Int) (p0 p1 p2 : Value) (w : World) (hQ : ∀ (q0 q1 q2 : Nat) (wx : World), RingS w a b c wx → RingB w wx q0 (Wf a) → RingB w wx q1 (Wf b) → RingB w wx q2 (Wf c) → Q .normal (ringAct a b c p0 p1 p2 (Value.pointer (some ⟨q0, 0, none⟩)) (Value.pointer (some ⟨q1, 0, none⟩)) (Value.pointer (some ⟨q2, 0, none⟩)) (W a) (W a) (W b) (W b) (W c) (W c)) wx) (q0 : Nat) (q1 : Nat) (q2 : Nat) (wx : World) (hS : RingS w a b c wx) (h0 : RingB w wx q0 (Wf a)) (h1 : RingB w wx q1 (Wf b)) (h2 : RingB w wx q2 (Wf c)) (n01 : q0 ≠ q1) (n02 : q0 ≠ q2) (n12 : q1 ≠ q2) :
    wpAnyH Try.prog .any ringOps Q (RingS w a b c) 0 #[true, true, true, true, true, true, true, true, true, true, true, true] (ringAct a b c p0 p1 p2 (Value.pointer (some ⟨q0, 0, none⟩)) (Value.pointer (some ⟨q1, 0, none⟩)) (Value.pointer (some ⟨q2, 0, none⟩)) (W a) (W a) (W b) (W b) (W c) (W c)) wx := by
  exact wpAnyH_done (by kernel_rfl) (hQ q0 q1 q2 wx hS h0 h1 h2) _
theorem ring_3_012_2 {Q : Exit → Act → World → Prop} (a b c : Int) (p0 p1 p2 : Value) (w : World) (hQ : ∀ (q0 q1 q2 : Nat) (wx : World), RingS w a b c wx → RingB w wx q0 (Wf a) → RingB w wx q1 (Wf b) → RingB w wx q2 (Wf c) → Q .normal (ringAct a b c p0 p1 p2 (Value.pointer (some ⟨q0, 0, none⟩)) (Value.pointer (some ⟨q1, 0, none⟩)) (Value.pointer (some ⟨q2, 0, none⟩)) (W a) (W a) (W b) (W b) (W c) (W c)) wx) (q0 : Nat) (q1 : Nat) (q2 : Nat) (wx : World) (hS : RingS w a b c wx) (h0 : RingB w wx q0 (Wf a)) (h1 : RingB w wx q1 (Wf b)) (h2 : RingB w wx q2 Zf) (n01 : q0 ≠ q1) (n02 : q0 ≠ q2) (n12 : q1 ≠ q2) :
    wpAnyH Try.prog .any ringOps Q (RingS w a b c) 1 #[true, true, true, true, true, true, true, true, true, true, true, false] (ringAct a b c p0 p1 p2 (Value.pointer (some ⟨q0, 0, none⟩)) (Value.pointer (some ⟨q1, 0, none⟩)) (Value.pointer (some ⟨q2, 0, none⟩)) (W a) (W a) (W b) (W b) (W c) (W c)) wx := by
  obtain ⟨c1, c2, c3, c4, c5⟩ := h2.cells
  simp only [Zf, if_neg (show ¬ (1 : Nat) = 0 by decide)] at c1 c2
  refine wpAnyH_ready (rs := [11]) (by kernel_rfl) (by simp) ?_
  refine AllReadyH.cons (o := { dst := none, op := Op.store 26 (Operand.tmp 9) (Operand.tmp 20), type := 0, pos := "law.go:98", after := #[{ on := 8, ground := Ground.data }, { on := 5, ground := Ground.data }, { on := 10, ground := Ground.chain }, { on := 0, ground := Ground.phase }, { on := 1, ground := Ground.phase }, { on := 2, ground := Ground.phase }, { on := 3, ground := Ground.phase }, { on := 4, ground := Ground.phase }, { on := 5, ground := Ground.phase }, { on := 6, ground := Ground.phase }, { on := 7, ground := Ground.phase }, { on := 8, ground := Ground.phase }, { on := 9, ground := Ground.phase }, { on := 10, ground := Ground.phase }], guard := none }) rfl (fun K hK => ?_) AllReadyH.nil
  go_simp
  refine hK.out _ _ ((hS.set h2.1 0 _).set h2.1 1 _) (fun hHeld => ?_)
  exact ring_3_012_3 a b c p0 p1 p2 w hQ _ _ _ _ hHeld ((h0.far n02.symm 0 _).far n02.symm 1 _) ((h1.far n12.symm 0 _).far n12.symm 1 _) (h2.put c) n01 n02 n12
theorem ring_3_012_1 {Q : Exit → Act → World → Prop} (a b c : Int) (p0 p1 p2 : Value) (w : World) (hQ : ∀ (q0 q1 q2 : Nat) (wx : World), RingS w a b c wx → RingB w wx q0 (Wf a) → RingB w wx q1 (Wf b) → RingB w wx q2 (Wf c) → Q .normal (ringAct a b c p0 p1 p2 (Value.pointer (some ⟨q0, 0, none⟩)) (Value.pointer (some ⟨q1, 0, none⟩)) (Value.pointer (some ⟨q2, 0, none⟩)) (W a) (W a) (W b) (W b) (W c) (W c)) wx) (q0 : Nat) (q1 : Nat) (q2 : Nat) (wx : World) (hS : RingS w a b c wx) (h0 : RingB w wx q0 (Wf a)) (h1 : RingB w wx q1 Zf) (h2 : RingB w wx q2 Zf) (n01 : q0 ≠ q1) (n02 : q0 ≠ q2) (n12 : q1 ≠ q2) :
    wpAnyH Try.prog .any ringOps Q (RingS w a b c) 2 #[true, true, true, true, true, true, true, true, true, true, false, false] (ringAct a b c p0 p1 p2 (Value.pointer (some ⟨q0, 0, none⟩)) (Value.pointer (some ⟨q1, 0, none⟩)) (Value.pointer (some ⟨q2, 0, none⟩)) (W a) (W a) (W b) (W b) (W c) (W c)) wx := by
  obtain ⟨c1, c2, c3, c4, c5⟩ := h1.cells
  simp only [Zf, if_neg (show ¬ (1 : Nat) = 0 by decide)] at c1 c2
  refine wpAnyH_ready (rs := [10]) (by kernel_rfl) (by simp) ?_
  refine AllReadyH.cons (o := { dst := none, op := Op.store 26 (Operand.tmp 8) (Operand.tmp 18), type := 0, pos := "law.go:98", after := #[{ on := 7, ground := Ground.data }, { on := 3, ground := Ground.data }, { on := 9, ground := Ground.chain }, { on := 0, ground := Ground.phase }, { on := 1, ground := Ground.phase }, { on := 2, ground := Ground.phase }, { on := 3, ground := Ground.phase }, { on := 4, ground := Ground.textOnly Departure.lateStores }, { on := 5, ground := Ground.textOnly Departure.lateStoresUnsure }, { on := 6, ground := Ground.phase }, { on := 7, ground := Ground.phase }, { on := 8, ground := Ground.phase }, { on := 9, ground := Ground.phase }], guard := none }) rfl (fun K hK => ?_) AllReadyH.nil
  go_simp
  refine hK.out _ _ ((hS.set h1.1 0 _).set h1.1 1 _) (fun hHeld => ?_)
  exact ring_3_012_2 a b c p0 p1 p2 w hQ _ _ _ _ hHeld ((h0.far n01.symm 0 _).far n01.symm 1 _) (h1.put b) ((h2.far n12 0 _).far n12 1 _) n01 n02 n12
theorem ring_3_012_0 {Q : Exit → Act → World → Prop} (a b c : Int) (p0 p1 p2 : Value) (w : World) (hQ : ∀ (q0 q1 q2 : Nat) (wx : World), RingS w a b c wx → RingB w wx q0 (Wf a) → RingB w wx q1 (Wf b) → RingB w wx q2 (Wf c) → Q .normal (ringAct a b c p0 p1 p2 (Value.pointer (some ⟨q0, 0, none⟩)) (Value.pointer (some ⟨q1, 0, none⟩)) (Value.pointer (some ⟨q2, 0, none⟩)) (W a) (W a) (W b) (W b) (W c) (W c)) wx) (q0 : Nat) (q1 : Nat) (q2 : Nat) (wx : World) (hS : RingS w a b c wx) (h0 : RingB w wx q0 Zf) (h1 : RingB w wx q1 Zf) (h2 : RingB w wx q2 Zf) (n01 : q0 ≠ q1) (n02 : q0 ≠ q2) (n12 : q1 ≠ q2) :
    wpAnyH Try.prog .any ringOps Q (RingS w a b c) 3 #[true, true, true, true, true, true, true, true, true, false, false, false] (ringAct a b c p0 p1 p2 (Value.pointer (some ⟨q0, 0, none⟩)) (Value.pointer (some ⟨q1, 0, none⟩)) (Value.pointer (some ⟨q2, 0, none⟩)) (W a) (W a) (W b) (W b) (W c) (W c)) wx := by
  obtain ⟨c1, c2, c3, c4, c5⟩ := h0.cells
  simp only [Zf, if_neg (show ¬ (1 : Nat) = 0 by decide)] at c1 c2
  refine wpAnyH_ready (rs := [9]) (by kernel_rfl) (by simp) ?_
  refine AllReadyH.cons (o := { dst := none, op := Op.store 26 (Operand.tmp 7) (Operand.tmp 16), type := 0, pos := "law.go:98", after := #[{ on := 6, ground := Ground.data }, { on := 1, ground := Ground.data }, { on := 5, ground := Ground.chain }, { on := 0, ground := Ground.phase }, { on := 1, ground := Ground.phase }, { on := 2, ground := Ground.textOnly Departure.lateStores }, { on := 3, ground := Ground.textOnly Departure.lateStoresUnsure }, { on := 4, ground := Ground.textOnly Departure.lateStores }, { on := 5, ground := Ground.textOnly Departure.lateStoresUnsure }, { on := 6, ground := Ground.phase }, { on := 7, ground := Ground.phase }, { on := 8, ground := Ground.phase }], guard := none }) rfl (fun K hK => ?_) AllReadyH.nil
  go_simp
  refine hK.out _ _ ((hS.set h0.1 0 _).set h0.1 1 _) (fun hHeld => ?_)
  exact ring_3_012_1 a b c p0 p1 p2 w hQ _ _ _ _ hHeld (h0.put a) ((h1.far n01 0 _).far n01 1 _) ((h2.far n02 0 _).far n02 1 _) n01 n02 n12
theorem ring_3_01_0 {Q : Exit → Act → World → Prop} (a b c : Int) (p0 p1 p2 : Value) (w : World) (hQ : ∀ (q0 q1 q2 : Nat) (wx : World), RingS w a b c wx → RingB w wx q0 (Wf a) → RingB w wx q1 (Wf b) → RingB w wx q2 (Wf c) → Q .normal (ringAct a b c p0 p1 p2 (Value.pointer (some ⟨q0, 0, none⟩)) (Value.pointer (some ⟨q1, 0, none⟩)) (Value.pointer (some ⟨q2, 0, none⟩)) (W a) (W a) (W b) (W b) (W c) (W c)) wx) (q0 : Nat) (q1 : Nat) (wx : World) (hS : RingS w a b c wx) (h0 : RingB w wx q0 Zf) (h1 : RingB w wx q1 Zf) (n01 : q0 ≠ q1) :
    wpAnyH Try.prog .any ringOps Q (RingS w a b c) 4 #[true, true, true, true, true, true, true, true, false, false, false, false] (ringAct a b c p0 p1 p2 (Value.pointer (some ⟨q0, 0, none⟩)) (Value.pointer (some ⟨q1, 0, none⟩)) undef (W a) (W a) (W b) (W b) (W c) (W c)) wx := by
  refine wpAnyH_ready (rs := [8]) (by kernel_rfl) (by simp) ?_
  refine AllReadyH.cons (o := { dst := some 9, op := Op.alloc 26, type := 0, pos := "law.go:98", after := #[], guard := none }) rfl (fun K hK => ?_) ?_
  · go_simp
    refine hK.out _ _ (hS.alloc _) (fun hHeld => ?_)
    exact ring_3_012_0 a b c p0 p1 p2 w hQ _ _ _ _ hHeld (h0.alloc _) (h1.alloc _) (hS.new _) n01 h0.ne h1.ne
  exact AllReadyH.nil
theorem ring_3_02_0 {Q : Exit → Act → World → Prop} (a b c : Int) (p0 p1 p2 : Value) (w : World) (hQ : ∀ (q0 q1 q2 : Nat) (wx : World), RingS w a b c wx → RingB w wx q0 (Wf a) → RingB w wx q1 (Wf b) → RingB w wx q2 (Wf c) → Q .normal (ringAct a b c p0 p1 p2 (Value.pointer (some ⟨q0, 0, none⟩)) (Value.pointer (some ⟨q1, 0, none⟩)) (Value.pointer (some ⟨q2, 0, none⟩)) (W a) (W a) (W b) (W b) (W c) (W c)) wx) (q0 : Nat) (q2 : Nat) (wx : World) (hS : RingS w a b c wx) (h0 : RingB w wx q0 Zf) (h2 : RingB w wx q2 Zf) (n02 : q0 ≠ q2) :
    wpAnyH Try.prog .any ringOps Q (RingS w a b c) 4 #[true, true, true, true, true, true, true, false, true, false, false, false] (ringAct a b c p0 p1 p2 (Value.pointer (some ⟨q0, 0, none⟩)) undef (Value.pointer (some ⟨q2, 0, none⟩)) (W a) (W a) (W b) (W b) (W c) (W c)) wx := by
  refine wpAnyH_ready (rs := [7]) (by kernel_rfl) (by simp) ?_
  refine AllReadyH.cons (o := { dst := some 8, op := Op.alloc 26, type := 0, pos := "law.go:98", after := #[], guard := none }) rfl (fun K hK => ?_) ?_
  · go_simp
    refine hK.out _ _ (hS.alloc _) (fun hHeld => ?_)
    exact ring_3_012_0 a b c p0 p1 p2 w hQ _ _ _ _ hHeld (h0.alloc _) (hS.new _) (h2.alloc _) h0.ne n02 h2.ne.symm
  exact AllReadyH.nil
theorem ring_3_12_0 {Q : Exit → Act → World → Prop} (a b c : Int) (p0 p1 p2 : Value) (w : World) (hQ : ∀ (q0 q1 q2 : Nat) (wx : World), RingS w a b c wx → RingB w wx q0 (Wf a) → RingB w wx q1 (Wf b) → RingB w wx q2 (Wf c) → Q .normal (ringAct a b c p0 p1 p2 (Value.pointer (some ⟨q0, 0, none⟩)) (Value.pointer (some ⟨q1, 0, none⟩)) (Value.pointer (some ⟨q2, 0, none⟩)) (W a) (W a) (W b) (W b) (W c) (W c)) wx) (q1 : Nat) (q2 : Nat) (wx : World) (hS : RingS w a b c wx) (h1 : RingB w wx q1 Zf) (h2 : RingB w wx q2 Zf) (n12 : q1 ≠ q2) :
    wpAnyH Try.prog .any ringOps Q (RingS w a b c) 4 #[true, true, true, true, true, true, false, true, true, false, false, false] (ringAct a b c p0 p1 p2 undef (Value.pointer (some ⟨q1, 0, none⟩)) (Value.pointer (some ⟨q2, 0, none⟩)) (W a) (W a) (W b) (W b) (W c) (W c)) wx := by
  refine wpAnyH_ready (rs := [6]) (by kernel_rfl) (by simp) ?_
  refine AllReadyH.cons (o := { dst := some 7, op := Op.alloc 26, type := 0, pos := "law.go:98", after := #[], guard := none }) rfl (fun K hK => ?_) ?_
  · go_simp
    refine hK.out _ _ (hS.alloc _) (fun hHeld => ?_)
    exact ring_3_012_0 a b c p0 p1 p2 w hQ _ _ _ _ hHeld (hS.new _) (h1.alloc _) (h2.alloc _) h1.ne.symm h2.ne.symm n12
  exact AllReadyH.nil
theorem ring_3_0_0 {Q : Exit → Act → World → Prop} (a b c : Int) (p0 p1 p2 : Value) (w : World) (hQ : ∀ (q0 q1 q2 : Nat) (wx : World), RingS w a b c wx → RingB w wx q0 (Wf a) → RingB w wx q1 (Wf b) → RingB w wx q2 (Wf c) → Q .normal (ringAct a b c p0 p1 p2 (Value.pointer (some ⟨q0, 0, none⟩)) (Value.pointer (some ⟨q1, 0, none⟩)) (Value.pointer (some ⟨q2, 0, none⟩)) (W a) (W a) (W b) (W b) (W c) (W c)) wx) (q0 : Nat) (wx : World) (hS : RingS w a b c wx) (h0 : RingB w wx q0 Zf) :
    wpAnyH Try.prog .any ringOps Q (RingS w a b c) 5 #[true, true, true, true, true, true, true, false, false, false, false, false] (ringAct a b c p0 p1 p2 (Value.pointer (some ⟨q0, 0, none⟩)) undef undef (W a) (W a) (W b) (W b) (W c) (W c)) wx := by
  refine wpAnyH_ready (rs := [7, 8]) (by kernel_rfl) (by simp) ?_
  refine AllReadyH.cons (o := { dst := some 8, op := Op.alloc 26, type := 0, pos := "law.go:98", after := #[], guard := none }) rfl (fun K hK => ?_) ?_
  · go_simp
    refine hK.out _ _ (hS.alloc _) (fun hHeld => ?_)
    exact ring_3_01_0 a b c p0 p1 p2 w hQ _ _ _ hHeld (h0.alloc _) (hS.new _) h0.ne
  refine AllReadyH.cons (o := { dst := some 9, op := Op.alloc 26, type := 0, pos := "law.go:98", after := #[], guard := none }) rfl (fun K hK => ?_) ?_
  · go_simp
    refine hK.out _ _ (hS.alloc _) (fun hHeld => ?_)
    exact ring_3_02_0 a b c p0 p1 p2 w hQ _ _ _ hHeld (h0.alloc _) (hS.new _) h0.ne
  exact AllReadyH.nil
theorem ring_3_1_0 {Q : Exit → Act → World → Prop} (a b c : Int) (p0 p1 p2 : Value) (w : World) (hQ : ∀ (q0 q1 q2 : Nat) (wx : World), RingS w a b c wx → RingB w wx q0 (Wf a) → RingB w wx q1 (Wf b) → RingB w wx q2 (Wf c) → Q .normal (ringAct a b c p0 p1 p2 (Value.pointer (some ⟨q0, 0, none⟩)) (Value.pointer (some ⟨q1, 0, none⟩)) (Value.pointer (some ⟨q2, 0, none⟩)) (W a) (W a) (W b) (W b) (W c) (W c)) wx) (q1 : Nat) (wx : World) (hS : RingS w a b c wx) (h1 : RingB w wx q1 Zf) :
    wpAnyH Try.prog .any ringOps Q (RingS w a b c) 5 #[true, true, true, true, true, true, false, true, false, false, false, false] (ringAct a b c p0 p1 p2 undef (Value.pointer (some ⟨q1, 0, none⟩)) undef (W a) (W a) (W b) (W b) (W c) (W c)) wx := by
  refine wpAnyH_ready (rs := [6, 8]) (by kernel_rfl) (by simp) ?_
  refine AllReadyH.cons (o := { dst := some 7, op := Op.alloc 26, type := 0, pos := "law.go:98", after := #[], guard := none }) rfl (fun K hK => ?_) ?_
  · go_simp
    refine hK.out _ _ (hS.alloc _) (fun hHeld => ?_)
    exact ring_3_01_0 a b c p0 p1 p2 w hQ _ _ _ hHeld (hS.new _) (h1.alloc _) h1.ne.symm
  refine AllReadyH.cons (o := { dst := some 9, op := Op.alloc 26, type := 0, pos := "law.go:98", after := #[], guard := none }) rfl (fun K hK => ?_) ?_
  · go_simp
    refine hK.out _ _ (hS.alloc _) (fun hHeld => ?_)
    exact ring_3_12_0 a b c p0 p1 p2 w hQ _ _ _ hHeld (h1.alloc _) (hS.new _) h1.ne
  exact AllReadyH.nil
theorem ring_3_2_0 {Q : Exit → Act → World → Prop} (a b c : Int) (p0 p1 p2 : Value) (w : World) (hQ : ∀ (q0 q1 q2 : Nat) (wx : World), RingS w a b c wx → RingB w wx q0 (Wf a) → RingB w wx q1 (Wf b) → RingB w wx q2 (Wf c) → Q .normal (ringAct a b c p0 p1 p2 (Value.pointer (some ⟨q0, 0, none⟩)) (Value.pointer (some ⟨q1, 0, none⟩)) (Value.pointer (some ⟨q2, 0, none⟩)) (W a) (W a) (W b) (W b) (W c) (W c)) wx) (q2 : Nat) (wx : World) (hS : RingS w a b c wx) (h2 : RingB w wx q2 Zf) :
    wpAnyH Try.prog .any ringOps Q (RingS w a b c) 5 #[true, true, true, true, true, true, false, false, true, false, false, false] (ringAct a b c p0 p1 p2 undef undef (Value.pointer (some ⟨q2, 0, none⟩)) (W a) (W a) (W b) (W b) (W c) (W c)) wx := by
  refine wpAnyH_ready (rs := [6, 7]) (by kernel_rfl) (by simp) ?_
  refine AllReadyH.cons (o := { dst := some 7, op := Op.alloc 26, type := 0, pos := "law.go:98", after := #[], guard := none }) rfl (fun K hK => ?_) ?_
  · go_simp
    refine hK.out _ _ (hS.alloc _) (fun hHeld => ?_)
    exact ring_3_02_0 a b c p0 p1 p2 w hQ _ _ _ hHeld (hS.new _) (h2.alloc _) h2.ne.symm
  refine AllReadyH.cons (o := { dst := some 8, op := Op.alloc 26, type := 0, pos := "law.go:98", after := #[], guard := none }) rfl (fun K hK => ?_) ?_
  · go_simp
    refine hK.out _ _ (hS.alloc _) (fun hHeld => ?_)
    exact ring_3_12_0 a b c p0 p1 p2 w hQ _ _ _ hHeld (hS.new _) (h2.alloc _) h2.ne.symm
  exact AllReadyH.nil
theorem ring_3_n_0 {Q : Exit → Act → World → Prop} (a b c : Int) (p0 p1 p2 : Value) (w : World) (hQ : ∀ (q0 q1 q2 : Nat) (wx : World), RingS w a b c wx → RingB w wx q0 (Wf a) → RingB w wx q1 (Wf b) → RingB w wx q2 (Wf c) → Q .normal (ringAct a b c p0 p1 p2 (Value.pointer (some ⟨q0, 0, none⟩)) (Value.pointer (some ⟨q1, 0, none⟩)) (Value.pointer (some ⟨q2, 0, none⟩)) (W a) (W a) (W b) (W b) (W c) (W c)) wx) (wx : World) (hS : RingS w a b c wx) :
    wpAnyH Try.prog .any ringOps Q (RingS w a b c) 6 #[true, true, true, true, true, true, false, false, false, false, false, false] (ringAct a b c p0 p1 p2 undef undef undef (W a) (W a) (W b) (W b) (W c) (W c)) wx := by
  refine wpAnyH_ready (rs := [6, 7, 8]) (by kernel_rfl) (by simp) ?_
  refine AllReadyH.cons (o := { dst := some 7, op := Op.alloc 26, type := 0, pos := "law.go:98", after := #[], guard := none }) rfl (fun K hK => ?_) ?_
  · go_simp
    refine hK.out _ _ (hS.alloc _) (fun hHeld => ?_)
    exact ring_3_0_0 a b c p0 p1 p2 w hQ _ _ hHeld (hS.new _) 
  refine AllReadyH.cons (o := { dst := some 8, op := Op.alloc 26, type := 0, pos := "law.go:98", after := #[], guard := none }) rfl (fun K hK => ?_) ?_
  · go_simp
    refine hK.out _ _ (hS.alloc _) (fun hHeld => ?_)
    exact ring_3_1_0 a b c p0 p1 p2 w hQ _ _ hHeld (hS.new _) 
  refine AllReadyH.cons (o := { dst := some 9, op := Op.alloc 26, type := 0, pos := "law.go:98", after := #[], guard := none }) rfl (fun K hK => ?_) ?_
  · go_simp
    refine hK.out _ _ (hS.alloc _) (fun hHeld => ?_)
    exact ring_3_2_0 a b c p0 p1 p2 w hQ _ _ hHeld (hS.new _) 
  exact AllReadyH.nil
theorem ring_2_012_0 {Q : Exit → Act → World → Prop} (a b c : Int) (p0 p1 p2 : Value) (w : World) (hQ : ∀ (q0 q1 q2 : Nat) (wx : World), RingS w a b c wx → RingB w wx q0 (Wf a) → RingB w wx q1 (Wf b) → RingB w wx q2 (Wf c) → Q .normal (ringAct a b c p0 p1 p2 (Value.pointer (some ⟨q0, 0, none⟩)) (Value.pointer (some ⟨q1, 0, none⟩)) (Value.pointer (some ⟨q2, 0, none⟩)) (W a) (W a) (W b) (W b) (W c) (W c)) wx) (q0 : Nat) (q1 : Nat) (q2 : Nat) (wx : World) (hS : RingS w a b c wx) (h0 : RingB w wx q0 Zf) (h1 : RingB w wx q1 Zf) (h2 : RingB w wx q2 Zf) (n01 : q0 ≠ q1) (n02 : q0 ≠ q2) (n12 : q1 ≠ q2) :
    wpAnyH Try.prog .any ringOps Q (RingS w a b c) 4 #[true, true, true, true, true, false, true, true, true, false, false, false] (ringAct a b c p0 p1 p2 (Value.pointer (some ⟨q0, 0, none⟩)) (Value.pointer (some ⟨q1, 0, none⟩)) (Value.pointer (some ⟨q2, 0, none⟩)) (W a) (W a) (W b) (W b) (W c) undef) wx := by
  refine wpAnyH_ready (rs := [5]) (by kernel_rfl) (by simp) ?_
  refine AllReadyH.cons (o := { dst := some 20, op := Op.call { callee := Callee.value (Operand.func 14), args := #[Operand.tmp 19], argTypes := #[24] }, type := 26, pos := "law.go:98", after := #[{ on := 4, ground := Ground.data }, { on := 3, ground := Ground.chain }], guard := none }) rfl (fun K hK => ?_) ?_
  · go_simp; refine (law_own _ _).mono ?_; rintro e w7 ⟨rfl, hS7⟩
    refine hK.out _ _ (hS.since hS7) (fun hHeld => ?_)
    exact ring_3_012_0 a b c p0 p1 p2 w hQ _ _ _ _ hHeld (h0.since hS7) (h1.since hS7) (h2.since hS7) n01 n02 n12
  exact AllReadyH.nil
theorem ring_2_01_0 {Q : Exit → Act → World → Prop} (a b c : Int) (p0 p1 p2 : Value) (w : World) (hQ : ∀ (q0 q1 q2 : Nat) (wx : World), RingS w a b c wx → RingB w wx q0 (Wf a) → RingB w wx q1 (Wf b) → RingB w wx q2 (Wf c) → Q .normal (ringAct a b c p0 p1 p2 (Value.pointer (some ⟨q0, 0, none⟩)) (Value.pointer (some ⟨q1, 0, none⟩)) (Value.pointer (some ⟨q2, 0, none⟩)) (W a) (W a) (W b) (W b) (W c) (W c)) wx) (q0 : Nat) (q1 : Nat) (wx : World) (hS : RingS w a b c wx) (h0 : RingB w wx q0 Zf) (h1 : RingB w wx q1 Zf) (n01 : q0 ≠ q1) :
    wpAnyH Try.prog .any ringOps Q (RingS w a b c) 5 #[true, true, true, true, true, false, true, true, false, false, false, false] (ringAct a b c p0 p1 p2 (Value.pointer (some ⟨q0, 0, none⟩)) (Value.pointer (some ⟨q1, 0, none⟩)) undef (W a) (W a) (W b) (W b) (W c) undef) wx := by
  refine wpAnyH_ready (rs := [5, 8]) (by kernel_rfl) (by simp) ?_
  refine AllReadyH.cons (o := { dst := some 20, op := Op.call { callee := Callee.value (Operand.func 14), args := #[Operand.tmp 19], argTypes := #[24] }, type := 26, pos := "law.go:98", after := #[{ on := 4, ground := Ground.data }, { on := 3, ground := Ground.chain }], guard := none }) rfl (fun K hK => ?_) ?_
  · go_simp; refine (law_own _ _).mono ?_; rintro e w7 ⟨rfl, hS7⟩
    refine hK.out _ _ (hS.since hS7) (fun hHeld => ?_)
    exact ring_3_01_0 a b c p0 p1 p2 w hQ _ _ _ hHeld (h0.since hS7) (h1.since hS7) n01
  refine AllReadyH.cons (o := { dst := some 9, op := Op.alloc 26, type := 0, pos := "law.go:98", after := #[], guard := none }) rfl (fun K hK => ?_) ?_
  · go_simp
    refine hK.out _ _ (hS.alloc _) (fun hHeld => ?_)
    exact ring_2_012_0 a b c p0 p1 p2 w hQ _ _ _ _ hHeld (h0.alloc _) (h1.alloc _) (hS.new _) n01 h0.ne h1.ne
  exact AllReadyH.nil
theorem ring_2_02_0 {Q : Exit → Act → World → Prop} (a b c : Int) (p0 p1 p2 : Value) (w : World) (hQ : ∀ (q0 q1 q2 : Nat) (wx : World), RingS w a b c wx → RingB w wx q0 (Wf a) → RingB w wx q1 (Wf b) → RingB w wx q2 (Wf c) → Q .normal (ringAct a b c p0 p1 p2 (Value.pointer (some ⟨q0, 0, none⟩)) (Value.pointer (some ⟨q1, 0, none⟩)) (Value.pointer (some ⟨q2, 0, none⟩)) (W a) (W a) (W b) (W b) (W c) (W c)) wx) (q0 : Nat) (q2 : Nat) (wx : World) (hS : RingS w a b c wx) (h0 : RingB w wx q0 Zf) (h2 : RingB w wx q2 Zf) (n02 : q0 ≠ q2) :
    wpAnyH Try.prog .any ringOps Q (RingS w a b c) 5 #[true, true, true, true, true, false, true, false, true, false, false, false] (ringAct a b c p0 p1 p2 (Value.pointer (some ⟨q0, 0, none⟩)) undef (Value.pointer (some ⟨q2, 0, none⟩)) (W a) (W a) (W b) (W b) (W c) undef) wx := by
  refine wpAnyH_ready (rs := [5, 7]) (by kernel_rfl) (by simp) ?_
  refine AllReadyH.cons (o := { dst := some 20, op := Op.call { callee := Callee.value (Operand.func 14), args := #[Operand.tmp 19], argTypes := #[24] }, type := 26, pos := "law.go:98", after := #[{ on := 4, ground := Ground.data }, { on := 3, ground := Ground.chain }], guard := none }) rfl (fun K hK => ?_) ?_
  · go_simp; refine (law_own _ _).mono ?_; rintro e w7 ⟨rfl, hS7⟩
    refine hK.out _ _ (hS.since hS7) (fun hHeld => ?_)
    exact ring_3_02_0 a b c p0 p1 p2 w hQ _ _ _ hHeld (h0.since hS7) (h2.since hS7) n02
  refine AllReadyH.cons (o := { dst := some 8, op := Op.alloc 26, type := 0, pos := "law.go:98", after := #[], guard := none }) rfl (fun K hK => ?_) ?_
  · go_simp
    refine hK.out _ _ (hS.alloc _) (fun hHeld => ?_)
    exact ring_2_012_0 a b c p0 p1 p2 w hQ _ _ _ _ hHeld (h0.alloc _) (hS.new _) (h2.alloc _) h0.ne n02 h2.ne.symm
  exact AllReadyH.nil
theorem ring_2_12_0 {Q : Exit → Act → World → Prop} (a b c : Int) (p0 p1 p2 : Value) (w : World) (hQ : ∀ (q0 q1 q2 : Nat) (wx : World), RingS w a b c wx → RingB w wx q0 (Wf a) → RingB w wx q1 (Wf b) → RingB w wx q2 (Wf c) → Q .normal (ringAct a b c p0 p1 p2 (Value.pointer (some ⟨q0, 0, none⟩)) (Value.pointer (some ⟨q1, 0, none⟩)) (Value.pointer (some ⟨q2, 0, none⟩)) (W a) (W a) (W b) (W b) (W c) (W c)) wx) (q1 : Nat) (q2 : Nat) (wx : World) (hS : RingS w a b c wx) (h1 : RingB w wx q1 Zf) (h2 : RingB w wx q2 Zf) (n12 : q1 ≠ q2) :
    wpAnyH Try.prog .any ringOps Q (RingS w a b c) 5 #[true, true, true, true, true, false, false, true, true, false, false, false] (ringAct a b c p0 p1 p2 undef (Value.pointer (some ⟨q1, 0, none⟩)) (Value.pointer (some ⟨q2, 0, none⟩)) (W a) (W a) (W b) (W b) (W c) undef) wx := by
  refine wpAnyH_ready (rs := [5, 6]) (by kernel_rfl) (by simp) ?_
  refine AllReadyH.cons (o := { dst := some 20, op := Op.call { callee := Callee.value (Operand.func 14), args := #[Operand.tmp 19], argTypes := #[24] }, type := 26, pos := "law.go:98", after := #[{ on := 4, ground := Ground.data }, { on := 3, ground := Ground.chain }], guard := none }) rfl (fun K hK => ?_) ?_
  · go_simp; refine (law_own _ _).mono ?_; rintro e w7 ⟨rfl, hS7⟩
    refine hK.out _ _ (hS.since hS7) (fun hHeld => ?_)
    exact ring_3_12_0 a b c p0 p1 p2 w hQ _ _ _ hHeld (h1.since hS7) (h2.since hS7) n12
  refine AllReadyH.cons (o := { dst := some 7, op := Op.alloc 26, type := 0, pos := "law.go:98", after := #[], guard := none }) rfl (fun K hK => ?_) ?_
  · go_simp
    refine hK.out _ _ (hS.alloc _) (fun hHeld => ?_)
    exact ring_2_012_0 a b c p0 p1 p2 w hQ _ _ _ _ hHeld (hS.new _) (h1.alloc _) (h2.alloc _) h1.ne.symm h2.ne.symm n12
  exact AllReadyH.nil
theorem ring_2_0_0 {Q : Exit → Act → World → Prop} (a b c : Int) (p0 p1 p2 : Value) (w : World) (hQ : ∀ (q0 q1 q2 : Nat) (wx : World), RingS w a b c wx → RingB w wx q0 (Wf a) → RingB w wx q1 (Wf b) → RingB w wx q2 (Wf c) → Q .normal (ringAct a b c p0 p1 p2 (Value.pointer (some ⟨q0, 0, none⟩)) (Value.pointer (some ⟨q1, 0, none⟩)) (Value.pointer (some ⟨q2, 0, none⟩)) (W a) (W a) (W b) (W b) (W c) (W c)) wx) (q0 : Nat) (wx : World) (hS : RingS w a b c wx) (h0 : RingB w wx q0 Zf) :
    wpAnyH Try.prog .any ringOps Q (RingS w a b c) 6 #[true, true, true, true, true, false, true, false, false, false, false, false] (ringAct a b c p0 p1 p2 (Value.pointer (some ⟨q0, 0, none⟩)) undef undef (W a) (W a) (W b) (W b) (W c) undef) wx := by
  refine wpAnyH_ready (rs := [5, 7, 8]) (by kernel_rfl) (by simp) ?_
  refine AllReadyH.cons (o := { dst := some 20, op := Op.call { callee := Callee.value (Operand.func 14), args := #[Operand.tmp 19], argTypes := #[24] }, type := 26, pos := "law.go:98", after := #[{ on := 4, ground := Ground.data }, { on := 3, ground := Ground.chain }], guard := none }) rfl (fun K hK => ?_) ?_
  · go_simp; refine (law_own _ _).mono ?_; rintro e w7 ⟨rfl, hS7⟩
    refine hK.out _ _ (hS.since hS7) (fun hHeld => ?_)
    exact ring_3_0_0 a b c p0 p1 p2 w hQ _ _ hHeld (h0.since hS7) 
  refine AllReadyH.cons (o := { dst := some 8, op := Op.alloc 26, type := 0, pos := "law.go:98", after := #[], guard := none }) rfl (fun K hK => ?_) ?_
  · go_simp
    refine hK.out _ _ (hS.alloc _) (fun hHeld => ?_)
    exact ring_2_01_0 a b c p0 p1 p2 w hQ _ _ _ hHeld (h0.alloc _) (hS.new _) h0.ne
  refine AllReadyH.cons (o := { dst := some 9, op := Op.alloc 26, type := 0, pos := "law.go:98", after := #[], guard := none }) rfl (fun K hK => ?_) ?_
  · go_simp
    refine hK.out _ _ (hS.alloc _) (fun hHeld => ?_)
    exact ring_2_02_0 a b c p0 p1 p2 w hQ _ _ _ hHeld (h0.alloc _) (hS.new _) h0.ne
  exact AllReadyH.nil
theorem ring_2_1_0 {Q : Exit → Act → World → Prop} (a b c : Int) (p0 p1 p2 : Value) (w : World) (hQ : ∀ (q0 q1 q2 : Nat) (wx : World), RingS w a b c wx → RingB w wx q0 (Wf a) → RingB w wx q1 (Wf b) → RingB w wx q2 (Wf c) → Q .normal (ringAct a b c p0 p1 p2 (Value.pointer (some ⟨q0, 0, none⟩)) (Value.pointer (some ⟨q1, 0, none⟩)) (Value.pointer (some ⟨q2, 0, none⟩)) (W a) (W a) (W b) (W b) (W c) (W c)) wx) (q1 : Nat) (wx : World) (hS : RingS w a b c wx) (h1 : RingB w wx q1 Zf) :
    wpAnyH Try.prog .any ringOps Q (RingS w a b c) 6 #[true, true, true, true, true, false, false, true, false, false, false, false] (ringAct a b c p0 p1 p2 undef (Value.pointer (some ⟨q1, 0, none⟩)) undef (W a) (W a) (W b) (W b) (W c) undef) wx := by
  refine wpAnyH_ready (rs := [5, 6, 8]) (by kernel_rfl) (by simp) ?_
  refine AllReadyH.cons (o := { dst := some 20, op := Op.call { callee := Callee.value (Operand.func 14), args := #[Operand.tmp 19], argTypes := #[24] }, type := 26, pos := "law.go:98", after := #[{ on := 4, ground := Ground.data }, { on := 3, ground := Ground.chain }], guard := none }) rfl (fun K hK => ?_) ?_
  · go_simp; refine (law_own _ _).mono ?_; rintro e w7 ⟨rfl, hS7⟩
    refine hK.out _ _ (hS.since hS7) (fun hHeld => ?_)
    exact ring_3_1_0 a b c p0 p1 p2 w hQ _ _ hHeld (h1.since hS7) 
  refine AllReadyH.cons (o := { dst := some 7, op := Op.alloc 26, type := 0, pos := "law.go:98", after := #[], guard := none }) rfl (fun K hK => ?_) ?_
  · go_simp
    refine hK.out _ _ (hS.alloc _) (fun hHeld => ?_)
    exact ring_2_01_0 a b c p0 p1 p2 w hQ _ _ _ hHeld (hS.new _) (h1.alloc _) h1.ne.symm
  refine AllReadyH.cons (o := { dst := some 9, op := Op.alloc 26, type := 0, pos := "law.go:98", after := #[], guard := none }) rfl (fun K hK => ?_) ?_
  · go_simp
    refine hK.out _ _ (hS.alloc _) (fun hHeld => ?_)
    exact ring_2_12_0 a b c p0 p1 p2 w hQ _ _ _ hHeld (h1.alloc _) (hS.new _) h1.ne
  exact AllReadyH.nil
theorem ring_2_2_0 {Q : Exit → Act → World → Prop} (a b c : Int) (p0 p1 p2 : Value) (w : World) (hQ : ∀ (q0 q1 q2 : Nat) (wx : World), RingS w a b c wx → RingB w wx q0 (Wf a) → RingB w wx q1 (Wf b) → RingB w wx q2 (Wf c) → Q .normal (ringAct a b c p0 p1 p2 (Value.pointer (some ⟨q0, 0, none⟩)) (Value.pointer (some ⟨q1, 0, none⟩)) (Value.pointer (some ⟨q2, 0, none⟩)) (W a) (W a) (W b) (W b) (W c) (W c)) wx) (q2 : Nat) (wx : World) (hS : RingS w a b c wx) (h2 : RingB w wx q2 Zf) :
    wpAnyH Try.prog .any ringOps Q (RingS w a b c) 6 #[true, true, true, true, true, false, false, false, true, false, false, false] (ringAct a b c p0 p1 p2 undef undef (Value.pointer (some ⟨q2, 0, none⟩)) (W a) (W a) (W b) (W b) (W c) undef) wx := by
  refine wpAnyH_ready (rs := [5, 6, 7]) (by kernel_rfl) (by simp) ?_
  refine AllReadyH.cons (o := { dst := some 20, op := Op.call { callee := Callee.value (Operand.func 14), args := #[Operand.tmp 19], argTypes := #[24] }, type := 26, pos := "law.go:98", after := #[{ on := 4, ground := Ground.data }, { on := 3, ground := Ground.chain }], guard := none }) rfl (fun K hK => ?_) ?_
  · go_simp; refine (law_own _ _).mono ?_; rintro e w7 ⟨rfl, hS7⟩
    refine hK.out _ _ (hS.since hS7) (fun hHeld => ?_)
    exact ring_3_2_0 a b c p0 p1 p2 w hQ _ _ hHeld (h2.since hS7) 
  refine AllReadyH.cons (o := { dst := some 7, op := Op.alloc 26, type := 0, pos := "law.go:98", after := #[], guard := none }) rfl (fun K hK => ?_) ?_
  · go_simp
    refine hK.out _ _ (hS.alloc _) (fun hHeld => ?_)
    exact ring_2_02_0 a b c p0 p1 p2 w hQ _ _ _ hHeld (hS.new _) (h2.alloc _) h2.ne.symm
  refine AllReadyH.cons (o := { dst := some 8, op := Op.alloc 26, type := 0, pos := "law.go:98", after := #[], guard := none }) rfl (fun K hK => ?_) ?_
  · go_simp
    refine hK.out _ _ (hS.alloc _) (fun hHeld => ?_)
    exact ring_2_12_0 a b c p0 p1 p2 w hQ _ _ _ hHeld (hS.new _) (h2.alloc _) h2.ne.symm
  exact AllReadyH.nil
theorem ring_2_n_0 {Q : Exit → Act → World → Prop} (a b c : Int) (p0 p1 p2 : Value) (w : World) (hQ : ∀ (q0 q1 q2 : Nat) (wx : World), RingS w a b c wx → RingB w wx q0 (Wf a) → RingB w wx q1 (Wf b) → RingB w wx q2 (Wf c) → Q .normal (ringAct a b c p0 p1 p2 (Value.pointer (some ⟨q0, 0, none⟩)) (Value.pointer (some ⟨q1, 0, none⟩)) (Value.pointer (some ⟨q2, 0, none⟩)) (W a) (W a) (W b) (W b) (W c) (W c)) wx) (wx : World) (hS : RingS w a b c wx) :
    wpAnyH Try.prog .any ringOps Q (RingS w a b c) 7 #[true, true, true, true, true, false, false, false, false, false, false, false] (ringAct a b c p0 p1 p2 undef undef undef (W a) (W a) (W b) (W b) (W c) undef) wx := by
  refine wpAnyH_ready (rs := [5, 6, 7, 8]) (by kernel_rfl) (by simp) ?_
  refine AllReadyH.cons (o := { dst := some 20, op := Op.call { callee := Callee.value (Operand.func 14), args := #[Operand.tmp 19], argTypes := #[24] }, type := 26, pos := "law.go:98", after := #[{ on := 4, ground := Ground.data }, { on := 3, ground := Ground.chain }], guard := none }) rfl (fun K hK => ?_) ?_
  · go_simp; refine (law_own _ _).mono ?_; rintro e w7 ⟨rfl, hS7⟩
    refine hK.out _ _ (hS.since hS7) (fun hHeld => ?_)
    exact ring_3_n_0 a b c p0 p1 p2 w hQ  _ hHeld  
  refine AllReadyH.cons (o := { dst := some 7, op := Op.alloc 26, type := 0, pos := "law.go:98", after := #[], guard := none }) rfl (fun K hK => ?_) ?_
  · go_simp
    refine hK.out _ _ (hS.alloc _) (fun hHeld => ?_)
    exact ring_2_0_0 a b c p0 p1 p2 w hQ _ _ hHeld (hS.new _) 
  refine AllReadyH.cons (o := { dst := some 8, op := Op.alloc 26, type := 0, pos := "law.go:98", after := #[], guard := none }) rfl (fun K hK => ?_) ?_
  · go_simp
    refine hK.out _ _ (hS.alloc _) (fun hHeld => ?_)
    exact ring_2_1_0 a b c p0 p1 p2 w hQ _ _ hHeld (hS.new _) 
  refine AllReadyH.cons (o := { dst := some 9, op := Op.alloc 26, type := 0, pos := "law.go:98", after := #[], guard := none }) rfl (fun K hK => ?_) ?_
  · go_simp
    refine hK.out _ _ (hS.alloc _) (fun hHeld => ?_)
    exact ring_2_2_0 a b c p0 p1 p2 w hQ _ _ hHeld (hS.new _) 
  exact AllReadyH.nil
theorem ring_1_012_0 {Q : Exit → Act → World → Prop} (a b c : Int) (p0 p1 p2 : Value) (w : World) (hQ : ∀ (q0 q1 q2 : Nat) (wx : World), RingS w a b c wx → RingB w wx q0 (Wf a) → RingB w wx q1 (Wf b) → RingB w wx q2 (Wf c) → Q .normal (ringAct a b c p0 p1 p2 (Value.pointer (some ⟨q0, 0, none⟩)) (Value.pointer (some ⟨q1, 0, none⟩)) (Value.pointer (some ⟨q2, 0, none⟩)) (W a) (W a) (W b) (W b) (W c) (W c)) wx) (q0 : Nat) (q1 : Nat) (q2 : Nat) (wx : World) (hS : RingS w a b c wx) (h0 : RingB w wx q0 Zf) (h1 : RingB w wx q1 Zf) (h2 : RingB w wx q2 Zf) (n01 : q0 ≠ q1) (n02 : q0 ≠ q2) (n12 : q1 ≠ q2) :
    wpAnyH Try.prog .any ringOps Q (RingS w a b c) 5 #[true, true, true, false, true, false, true, true, true, false, false, false] (ringAct a b c p0 p1 p2 (Value.pointer (some ⟨q0, 0, none⟩)) (Value.pointer (some ⟨q1, 0, none⟩)) (Value.pointer (some ⟨q2, 0, none⟩)) (W a) (W a) (W b) undef (W c) undef) wx := by
  refine wpAnyH_ready (rs := [3]) (by kernel_rfl) (by simp) ?_
  refine AllReadyH.cons (o := { dst := some 18, op := Op.call { callee := Callee.value (Operand.func 14), args := #[Operand.tmp 17], argTypes := #[24] }, type := 26, pos := "law.go:98", after := #[{ on := 2, ground := Ground.data }, { on := 1, ground := Ground.chain }], guard := none }) rfl (fun K hK => ?_) ?_
  · go_simp; refine (law_own _ _).mono ?_; rintro e w7 ⟨rfl, hS7⟩
    refine hK.out _ _ (hS.since hS7) (fun hHeld => ?_)
    exact ring_2_012_0 a b c p0 p1 p2 w hQ _ _ _ _ hHeld (h0.since hS7) (h1.since hS7) (h2.since hS7) n01 n02 n12
  exact AllReadyH.nil
theorem ring_1_01_0 {Q : Exit → Act → World → Prop} (a b c : Int) (p0 p1 p2 : Value) (w : World) (hQ : ∀ (q0 q1 q2 : Nat) (wx : World), RingS w a b c wx → RingB w wx q0 (Wf a) → RingB w wx q1 (Wf b) → RingB w wx q2 (Wf c) → Q .normal (ringAct a b c p0 p1 p2 (Value.pointer (some ⟨q0, 0, none⟩)) (Value.pointer (some ⟨q1, 0, none⟩)) (Value.pointer (some ⟨q2, 0, none⟩)) (W a) (W a) (W b) (W b) (W c) (W c)) wx) (q0 : Nat) (q1 : Nat) (wx : World) (hS : RingS w a b c wx) (h0 : RingB w wx q0 Zf) (h1 : RingB w wx q1 Zf) (n01 : q0 ≠ q1) :
    wpAnyH Try.prog .any ringOps Q (RingS w a b c) 6 #[true, true, true, false, true, false, true, true, false, false, false, false] (ringAct a b c p0 p1 p2 (Value.pointer (some ⟨q0, 0, none⟩)) (Value.pointer (some ⟨q1, 0, none⟩)) undef (W a) (W a) (W b) undef (W c) undef) wx := by
  refine wpAnyH_ready (rs := [3, 8]) (by kernel_rfl) (by simp) ?_
  refine AllReadyH.cons (o := { dst := some 18, op := Op.call { callee := Callee.value (Operand.func 14), args := #[Operand.tmp 17], argTypes := #[24] }, type := 26, pos := "law.go:98", after := #[{ on := 2, ground := Ground.data }, { on := 1, ground := Ground.chain }], guard := none }) rfl (fun K hK => ?_) ?_
  · go_simp; refine (law_own _ _).mono ?_; rintro e w7 ⟨rfl, hS7⟩
    refine hK.out _ _ (hS.since hS7) (fun hHeld => ?_)
    exact ring_2_01_0 a b c p0 p1 p2 w hQ _ _ _ hHeld (h0.since hS7) (h1.since hS7) n01
  refine AllReadyH.cons (o := { dst := some 9, op := Op.alloc 26, type := 0, pos := "law.go:98", after := #[], guard := none }) rfl (fun K hK => ?_) ?_
  · go_simp
    refine hK.out _ _ (hS.alloc _) (fun hHeld => ?_)
    exact ring_1_012_0 a b c p0 p1 p2 w hQ _ _ _ _ hHeld (h0.alloc _) (h1.alloc _) (hS.new _) n01 h0.ne h1.ne
  exact AllReadyH.nil
theorem ring_1_02_0 {Q : Exit → Act → World → Prop} (a b c : Int) (p0 p1 p2 : Value) (w : World) (hQ : ∀ (q0 q1 q2 : Nat) (wx : World), RingS w a b c wx → RingB w wx q0 (Wf a) → RingB w wx q1 (Wf b) → RingB w wx q2 (Wf c) → Q .normal (ringAct a b c p0 p1 p2 (Value.pointer (some ⟨q0, 0, none⟩)) (Value.pointer (some ⟨q1, 0, none⟩)) (Value.pointer (some ⟨q2, 0, none⟩)) (W a) (W a) (W b) (W b) (W c) (W c)) wx) (q0 : Nat) (q2 : Nat) (wx : World) (hS : RingS w a b c wx) (h0 : RingB w wx q0 Zf) (h2 : RingB w wx q2 Zf) (n02 : q0 ≠ q2) :
    wpAnyH Try.prog .any ringOps Q (RingS w a b c) 6 #[true, true, true, false, true, false, true, false, true, false, false, false] (ringAct a b c p0 p1 p2 (Value.pointer (some ⟨q0, 0, none⟩)) undef (Value.pointer (some ⟨q2, 0, none⟩)) (W a) (W a) (W b) undef (W c) undef) wx := by
  refine wpAnyH_ready (rs := [3, 7]) (by kernel_rfl) (by simp) ?_
  refine AllReadyH.cons (o := { dst := some 18, op := Op.call { callee := Callee.value (Operand.func 14), args := #[Operand.tmp 17], argTypes := #[24] }, type := 26, pos := "law.go:98", after := #[{ on := 2, ground := Ground.data }, { on := 1, ground := Ground.chain }], guard := none }) rfl (fun K hK => ?_) ?_
  · go_simp; refine (law_own _ _).mono ?_; rintro e w7 ⟨rfl, hS7⟩
    refine hK.out _ _ (hS.since hS7) (fun hHeld => ?_)
    exact ring_2_02_0 a b c p0 p1 p2 w hQ _ _ _ hHeld (h0.since hS7) (h2.since hS7) n02
  refine AllReadyH.cons (o := { dst := some 8, op := Op.alloc 26, type := 0, pos := "law.go:98", after := #[], guard := none }) rfl (fun K hK => ?_) ?_
  · go_simp
    refine hK.out _ _ (hS.alloc _) (fun hHeld => ?_)
    exact ring_1_012_0 a b c p0 p1 p2 w hQ _ _ _ _ hHeld (h0.alloc _) (hS.new _) (h2.alloc _) h0.ne n02 h2.ne.symm
  exact AllReadyH.nil
theorem ring_1_12_0 {Q : Exit → Act → World → Prop} (a b c : Int) (p0 p1 p2 : Value) (w : World) (hQ : ∀ (q0 q1 q2 : Nat) (wx : World), RingS w a b c wx → RingB w wx q0 (Wf a) → RingB w wx q1 (Wf b) → RingB w wx q2 (Wf c) → Q .normal (ringAct a b c p0 p1 p2 (Value.pointer (some ⟨q0, 0, none⟩)) (Value.pointer (some ⟨q1, 0, none⟩)) (Value.pointer (some ⟨q2, 0, none⟩)) (W a) (W a) (W b) (W b) (W c) (W c)) wx) (q1 : Nat) (q2 : Nat) (wx : World) (hS : RingS w a b c wx) (h1 : RingB w wx q1 Zf) (h2 : RingB w wx q2 Zf) (n12 : q1 ≠ q2) :
    wpAnyH Try.prog .any ringOps Q (RingS w a b c) 6 #[true, true, true, false, true, false, false, true, true, false, false, false] (ringAct a b c p0 p1 p2 undef (Value.pointer (some ⟨q1, 0, none⟩)) (Value.pointer (some ⟨q2, 0, none⟩)) (W a) (W a) (W b) undef (W c) undef) wx := by
  refine wpAnyH_ready (rs := [3, 6]) (by kernel_rfl) (by simp) ?_
  refine AllReadyH.cons (o := { dst := some 18, op := Op.call { callee := Callee.value (Operand.func 14), args := #[Operand.tmp 17], argTypes := #[24] }, type := 26, pos := "law.go:98", after := #[{ on := 2, ground := Ground.data }, { on := 1, ground := Ground.chain }], guard := none }) rfl (fun K hK => ?_) ?_
  · go_simp; refine (law_own _ _).mono ?_; rintro e w7 ⟨rfl, hS7⟩
    refine hK.out _ _ (hS.since hS7) (fun hHeld => ?_)
    exact ring_2_12_0 a b c p0 p1 p2 w hQ _ _ _ hHeld (h1.since hS7) (h2.since hS7) n12
  refine AllReadyH.cons (o := { dst := some 7, op := Op.alloc 26, type := 0, pos := "law.go:98", after := #[], guard := none }) rfl (fun K hK => ?_) ?_
  · go_simp
    refine hK.out _ _ (hS.alloc _) (fun hHeld => ?_)
    exact ring_1_012_0 a b c p0 p1 p2 w hQ _ _ _ _ hHeld (hS.new _) (h1.alloc _) (h2.alloc _) h1.ne.symm h2.ne.symm n12
  exact AllReadyH.nil
theorem ring_1_0_0 {Q : Exit → Act → World → Prop} (a b c : Int) (p0 p1 p2 : Value) (w : World) (hQ : ∀ (q0 q1 q2 : Nat) (wx : World), RingS w a b c wx → RingB w wx q0 (Wf a) → RingB w wx q1 (Wf b) → RingB w wx q2 (Wf c) → Q .normal (ringAct a b c p0 p1 p2 (Value.pointer (some ⟨q0, 0, none⟩)) (Value.pointer (some ⟨q1, 0, none⟩)) (Value.pointer (some ⟨q2, 0, none⟩)) (W a) (W a) (W b) (W b) (W c) (W c)) wx) (q0 : Nat) (wx : World) (hS : RingS w a b c wx) (h0 : RingB w wx q0 Zf) :
    wpAnyH Try.prog .any ringOps Q (RingS w a b c) 7 #[true, true, true, false, true, false, true, false, false, false, false, false] (ringAct a b c p0 p1 p2 (Value.pointer (some ⟨q0, 0, none⟩)) undef undef (W a) (W a) (W b) undef (W c) undef) wx := by
  refine wpAnyH_ready (rs := [3, 7, 8]) (by kernel_rfl) (by simp) ?_
  refine AllReadyH.cons (o := { dst := some 18, op := Op.call { callee := Callee.value (Operand.func 14), args := #[Operand.tmp 17], argTypes := #[24] }, type := 26, pos := "law.go:98", after := #[{ on := 2, ground := Ground.data }, { on := 1, ground := Ground.chain }], guard := none }) rfl (fun K hK => ?_) ?_
  · go_simp; refine (law_own _ _).mono ?_; rintro e w7 ⟨rfl, hS7⟩
    refine hK.out _ _ (hS.since hS7) (fun hHeld => ?_)
    exact ring_2_0_0 a b c p0 p1 p2 w hQ _ _ hHeld (h0.since hS7) 
  refine AllReadyH.cons (o := { dst := some 8, op := Op.alloc 26, type := 0, pos := "law.go:98", after := #[], guard := none }) rfl (fun K hK => ?_) ?_
  · go_simp
    refine hK.out _ _ (hS.alloc _) (fun hHeld => ?_)
    exact ring_1_01_0 a b c p0 p1 p2 w hQ _ _ _ hHeld (h0.alloc _) (hS.new _) h0.ne
  refine AllReadyH.cons (o := { dst := some 9, op := Op.alloc 26, type := 0, pos := "law.go:98", after := #[], guard := none }) rfl (fun K hK => ?_) ?_
  · go_simp
    refine hK.out _ _ (hS.alloc _) (fun hHeld => ?_)
    exact ring_1_02_0 a b c p0 p1 p2 w hQ _ _ _ hHeld (h0.alloc _) (hS.new _) h0.ne
  exact AllReadyH.nil
theorem ring_1_1_0 {Q : Exit → Act → World → Prop} (a b c : Int) (p0 p1 p2 : Value) (w : World) (hQ : ∀ (q0 q1 q2 : Nat) (wx : World), RingS w a b c wx → RingB w wx q0 (Wf a) → RingB w wx q1 (Wf b) → RingB w wx q2 (Wf c) → Q .normal (ringAct a b c p0 p1 p2 (Value.pointer (some ⟨q0, 0, none⟩)) (Value.pointer (some ⟨q1, 0, none⟩)) (Value.pointer (some ⟨q2, 0, none⟩)) (W a) (W a) (W b) (W b) (W c) (W c)) wx) (q1 : Nat) (wx : World) (hS : RingS w a b c wx) (h1 : RingB w wx q1 Zf) :
    wpAnyH Try.prog .any ringOps Q (RingS w a b c) 7 #[true, true, true, false, true, false, false, true, false, false, false, false] (ringAct a b c p0 p1 p2 undef (Value.pointer (some ⟨q1, 0, none⟩)) undef (W a) (W a) (W b) undef (W c) undef) wx := by
  refine wpAnyH_ready (rs := [3, 6, 8]) (by kernel_rfl) (by simp) ?_
  refine AllReadyH.cons (o := { dst := some 18, op := Op.call { callee := Callee.value (Operand.func 14), args := #[Operand.tmp 17], argTypes := #[24] }, type := 26, pos := "law.go:98", after := #[{ on := 2, ground := Ground.data }, { on := 1, ground := Ground.chain }], guard := none }) rfl (fun K hK => ?_) ?_
  · go_simp; refine (law_own _ _).mono ?_; rintro e w7 ⟨rfl, hS7⟩
    refine hK.out _ _ (hS.since hS7) (fun hHeld => ?_)
    exact ring_2_1_0 a b c p0 p1 p2 w hQ _ _ hHeld (h1.since hS7) 
  refine AllReadyH.cons (o := { dst := some 7, op := Op.alloc 26, type := 0, pos := "law.go:98", after := #[], guard := none }) rfl (fun K hK => ?_) ?_
  · go_simp
    refine hK.out _ _ (hS.alloc _) (fun hHeld => ?_)
    exact ring_1_01_0 a b c p0 p1 p2 w hQ _ _ _ hHeld (hS.new _) (h1.alloc _) h1.ne.symm
  refine AllReadyH.cons (o := { dst := some 9, op := Op.alloc 26, type := 0, pos := "law.go:98", after := #[], guard := none }) rfl (fun K hK => ?_) ?_
  · go_simp
    refine hK.out _ _ (hS.alloc _) (fun hHeld => ?_)
    exact ring_1_12_0 a b c p0 p1 p2 w hQ _ _ _ hHeld (h1.alloc _) (hS.new _) h1.ne
  exact AllReadyH.nil
theorem ring_1_2_0 {Q : Exit → Act → World → Prop} (a b c : Int) (p0 p1 p2 : Value) (w : World) (hQ : ∀ (q0 q1 q2 : Nat) (wx : World), RingS w a b c wx → RingB w wx q0 (Wf a) → RingB w wx q1 (Wf b) → RingB w wx q2 (Wf c) → Q .normal (ringAct a b c p0 p1 p2 (Value.pointer (some ⟨q0, 0, none⟩)) (Value.pointer (some ⟨q1, 0, none⟩)) (Value.pointer (some ⟨q2, 0, none⟩)) (W a) (W a) (W b) (W b) (W c) (W c)) wx) (q2 : Nat) (wx : World) (hS : RingS w a b c wx) (h2 : RingB w wx q2 Zf) :
    wpAnyH Try.prog .any ringOps Q (RingS w a b c) 7 #[true, true, true, false, true, false, false, false, true, false, false, false] (ringAct a b c p0 p1 p2 undef undef (Value.pointer (some ⟨q2, 0, none⟩)) (W a) (W a) (W b) undef (W c) undef) wx := by
  refine wpAnyH_ready (rs := [3, 6, 7]) (by kernel_rfl) (by simp) ?_
  refine AllReadyH.cons (o := { dst := some 18, op := Op.call { callee := Callee.value (Operand.func 14), args := #[Operand.tmp 17], argTypes := #[24] }, type := 26, pos := "law.go:98", after := #[{ on := 2, ground := Ground.data }, { on := 1, ground := Ground.chain }], guard := none }) rfl (fun K hK => ?_) ?_
  · go_simp; refine (law_own _ _).mono ?_; rintro e w7 ⟨rfl, hS7⟩
    refine hK.out _ _ (hS.since hS7) (fun hHeld => ?_)
    exact ring_2_2_0 a b c p0 p1 p2 w hQ _ _ hHeld (h2.since hS7) 
  refine AllReadyH.cons (o := { dst := some 7, op := Op.alloc 26, type := 0, pos := "law.go:98", after := #[], guard := none }) rfl (fun K hK => ?_) ?_
  · go_simp
    refine hK.out _ _ (hS.alloc _) (fun hHeld => ?_)
    exact ring_1_02_0 a b c p0 p1 p2 w hQ _ _ _ hHeld (hS.new _) (h2.alloc _) h2.ne.symm
  refine AllReadyH.cons (o := { dst := some 8, op := Op.alloc 26, type := 0, pos := "law.go:98", after := #[], guard := none }) rfl (fun K hK => ?_) ?_
  · go_simp
    refine hK.out _ _ (hS.alloc _) (fun hHeld => ?_)
    exact ring_1_12_0 a b c p0 p1 p2 w hQ _ _ _ hHeld (hS.new _) (h2.alloc _) h2.ne.symm
  exact AllReadyH.nil
theorem ring_1_n_0 {Q : Exit → Act → World → Prop} (a b c : Int) (p0 p1 p2 : Value) (w : World) (hQ : ∀ (q0 q1 q2 : Nat) (wx : World), RingS w a b c wx → RingB w wx q0 (Wf a) → RingB w wx q1 (Wf b) → RingB w wx q2 (Wf c) → Q .normal (ringAct a b c p0 p1 p2 (Value.pointer (some ⟨q0, 0, none⟩)) (Value.pointer (some ⟨q1, 0, none⟩)) (Value.pointer (some ⟨q2, 0, none⟩)) (W a) (W a) (W b) (W b) (W c) (W c)) wx) (wx : World) (hS : RingS w a b c wx) :
    wpAnyH Try.prog .any ringOps Q (RingS w a b c) 8 #[true, true, true, false, true, false, false, false, false, false, false, false] (ringAct a b c p0 p1 p2 undef undef undef (W a) (W a) (W b) undef (W c) undef) wx := by
  refine wpAnyH_ready (rs := [3, 6, 7, 8]) (by kernel_rfl) (by simp) ?_
  refine AllReadyH.cons (o := { dst := some 18, op := Op.call { callee := Callee.value (Operand.func 14), args := #[Operand.tmp 17], argTypes := #[24] }, type := 26, pos := "law.go:98", after := #[{ on := 2, ground := Ground.data }, { on := 1, ground := Ground.chain }], guard := none }) rfl (fun K hK => ?_) ?_
  · go_simp; refine (law_own _ _).mono ?_; rintro e w7 ⟨rfl, hS7⟩
    refine hK.out _ _ (hS.since hS7) (fun hHeld => ?_)
    exact ring_2_n_0 a b c p0 p1 p2 w hQ  _ hHeld  
  refine AllReadyH.cons (o := { dst := some 7, op := Op.alloc 26, type := 0, pos := "law.go:98", after := #[], guard := none }) rfl (fun K hK => ?_) ?_
  · go_simp
    refine hK.out _ _ (hS.alloc _) (fun hHeld => ?_)
    exact ring_1_0_0 a b c p0 p1 p2 w hQ _ _ hHeld (hS.new _) 
  refine AllReadyH.cons (o := { dst := some 8, op := Op.alloc 26, type := 0, pos := "law.go:98", after := #[], guard := none }) rfl (fun K hK => ?_) ?_
  · go_simp
    refine hK.out _ _ (hS.alloc _) (fun hHeld => ?_)
    exact ring_1_1_0 a b c p0 p1 p2 w hQ _ _ hHeld (hS.new _) 
  refine AllReadyH.cons (o := { dst := some 9, op := Op.alloc 26, type := 0, pos := "law.go:98", after := #[], guard := none }) rfl (fun K hK => ?_) ?_
  · go_simp
    refine hK.out _ _ (hS.alloc _) (fun hHeld => ?_)
    exact ring_1_2_0 a b c p0 p1 p2 w hQ _ _ hHeld (hS.new _) 
  exact AllReadyH.nil
theorem ring_0_012_0 {Q : Exit → Act → World → Prop} (a b c : Int) (p0 p1 p2 : Value) (w : World) (hQ : ∀ (q0 q1 q2 : Nat) (wx : World), RingS w a b c wx → RingB w wx q0 (Wf a) → RingB w wx q1 (Wf b) → RingB w wx q2 (Wf c) → Q .normal (ringAct a b c p0 p1 p2 (Value.pointer (some ⟨q0, 0, none⟩)) (Value.pointer (some ⟨q1, 0, none⟩)) (Value.pointer (some ⟨q2, 0, none⟩)) (W a) (W a) (W b) (W b) (W c) (W c)) wx) (q0 : Nat) (q1 : Nat) (q2 : Nat) (wx : World) (hS : RingS w a b c wx) (h0 : RingB w wx q0 Zf) (h1 : RingB w wx q1 Zf) (h2 : RingB w wx q2 Zf) (n01 : q0 ≠ q1) (n02 : q0 ≠ q2) (n12 : q1 ≠ q2) :
    wpAnyH Try.prog .any ringOps Q (RingS w a b c) 6 #[true, false, true, false, true, false, true, true, true, false, false, false] (ringAct a b c p0 p1 p2 (Value.pointer (some ⟨q0, 0, none⟩)) (Value.pointer (some ⟨q1, 0, none⟩)) (Value.pointer (some ⟨q2, 0, none⟩)) (W a) undef (W b) undef (W c) undef) wx := by
  refine wpAnyH_ready (rs := [1]) (by kernel_rfl) (by simp) ?_
  refine AllReadyH.cons (o := { dst := some 16, op := Op.call { callee := Callee.value (Operand.func 14), args := #[Operand.tmp 15], argTypes := #[24] }, type := 26, pos := "law.go:98", after := #[{ on := 0, ground := Ground.data }], guard := none }) rfl (fun K hK => ?_) ?_
  · go_simp; refine (law_own _ _).mono ?_; rintro e w7 ⟨rfl, hS7⟩
    refine hK.out _ _ (hS.since hS7) (fun hHeld => ?_)
    exact ring_1_012_0 a b c p0 p1 p2 w hQ _ _ _ _ hHeld (h0.since hS7) (h1.since hS7) (h2.since hS7) n01 n02 n12
  exact AllReadyH.nil
theorem ring_0_01_0 {Q : Exit → Act → World → Prop} (a b c : Int) (p0 p1 p2 : Value) (w : World) (hQ : ∀ (q0 q1 q2 : Nat) (wx : World), RingS w a b c wx → RingB w wx q0 (Wf a) → RingB w wx q1 (Wf b) → RingB w wx q2 (Wf c) → Q .normal (ringAct a b c p0 p1 p2 (Value.pointer (some ⟨q0, 0, none⟩)) (Value.pointer (some ⟨q1, 0, none⟩)) (Value.pointer (some ⟨q2, 0, none⟩)) (W a) (W a) (W b) (W b) (W c) (W c)) wx) (q0 : Nat) (q1 : Nat) (wx : World) (hS : RingS w a b c wx) (h0 : RingB w wx q0 Zf) (h1 : RingB w wx q1 Zf) (n01 : q0 ≠ q1) :
    wpAnyH Try.prog .any ringOps Q (RingS w a b c) 7 #[true, false, true, false, true, false, true, true, false, false, false, false] (ringAct a b c p0 p1 p2 (Value.pointer (some ⟨q0, 0, none⟩)) (Value.pointer (some ⟨q1, 0, none⟩)) undef (W a) undef (W b) undef (W c) undef) wx := by
  refine wpAnyH_ready (rs := [1, 8]) (by kernel_rfl) (by simp) ?_
  refine AllReadyH.cons (o := { dst := some 16, op := Op.call { callee := Callee.value (Operand.func 14), args := #[Operand.tmp 15], argTypes := #[24] }, type := 26, pos := "law.go:98", after := #[{ on := 0, ground := Ground.data }], guard := none }) rfl (fun K hK => ?_) ?_
  · go_simp; refine (law_own _ _).mono ?_; rintro e w7 ⟨rfl, hS7⟩
    refine hK.out _ _ (hS.since hS7) (fun hHeld => ?_)
    exact ring_1_01_0 a b c p0 p1 p2 w hQ _ _ _ hHeld (h0.since hS7) (h1.since hS7) n01
  refine AllReadyH.cons (o := { dst := some 9, op := Op.alloc 26, type := 0, pos := "law.go:98", after := #[], guard := none }) rfl (fun K hK => ?_) ?_
  · go_simp
    refine hK.out _ _ (hS.alloc _) (fun hHeld => ?_)
    exact ring_0_012_0 a b c p0 p1 p2 w hQ _ _ _ _ hHeld (h0.alloc _) (h1.alloc _) (hS.new _) n01 h0.ne h1.ne
  exact AllReadyH.nil
theorem ring_0_02_0 {Q : Exit → Act → World → Prop} (a b c : Int) (p0 p1 p2 : Value) (w : World) (hQ : ∀ (q0 q1 q2 : Nat) (wx : World), RingS w a b c wx → RingB w wx q0 (Wf a) → RingB w wx q1 (Wf b) → RingB w wx q2 (Wf c) → Q .normal (ringAct a b c p0 p1 p2 (Value.pointer (some ⟨q0, 0, none⟩)) (Value.pointer (some ⟨q1, 0, none⟩)) (Value.pointer (some ⟨q2, 0, none⟩)) (W a) (W a) (W b) (W b) (W c) (W c)) wx) (q0 : Nat) (q2 : Nat) (wx : World) (hS : RingS w a b c wx) (h0 : RingB w wx q0 Zf) (h2 : RingB w wx q2 Zf) (n02 : q0 ≠ q2) :
    wpAnyH Try.prog .any ringOps Q (RingS w a b c) 7 #[true, false, true, false, true, false, true, false, true, false, false, false] (ringAct a b c p0 p1 p2 (Value.pointer (some ⟨q0, 0, none⟩)) undef (Value.pointer (some ⟨q2, 0, none⟩)) (W a) undef (W b) undef (W c) undef) wx := by
  refine wpAnyH_ready (rs := [1, 7]) (by kernel_rfl) (by simp) ?_
  refine AllReadyH.cons (o := { dst := some 16, op := Op.call { callee := Callee.value (Operand.func 14), args := #[Operand.tmp 15], argTypes := #[24] }, type := 26, pos := "law.go:98", after := #[{ on := 0, ground := Ground.data }], guard := none }) rfl (fun K hK => ?_) ?_
  · go_simp; refine (law_own _ _).mono ?_; rintro e w7 ⟨rfl, hS7⟩
    refine hK.out _ _ (hS.since hS7) (fun hHeld => ?_)
    exact ring_1_02_0 a b c p0 p1 p2 w hQ _ _ _ hHeld (h0.since hS7) (h2.since hS7) n02
  refine AllReadyH.cons (o := { dst := some 8, op := Op.alloc 26, type := 0, pos := "law.go:98", after := #[], guard := none }) rfl (fun K hK => ?_) ?_
  · go_simp
    refine hK.out _ _ (hS.alloc _) (fun hHeld => ?_)
    exact ring_0_012_0 a b c p0 p1 p2 w hQ _ _ _ _ hHeld (h0.alloc _) (hS.new _) (h2.alloc _) h0.ne n02 h2.ne.symm
  exact AllReadyH.nil
theorem ring_0_12_0 {Q : Exit → Act → World → Prop} (a b c : Int) (p0 p1 p2 : Value) (w : World) (hQ : ∀ (q0 q1 q2 : Nat) (wx : World), RingS w a b c wx → RingB w wx q0 (Wf a) → RingB w wx q1 (Wf b) → RingB w wx q2 (Wf c) → Q .normal (ringAct a b c p0 p1 p2 (Value.pointer (some ⟨q0, 0, none⟩)) (Value.pointer (some ⟨q1, 0, none⟩)) (Value.pointer (some ⟨q2, 0, none⟩)) (W a) (W a) (W b) (W b) (W c) (W c)) wx) (q1 : Nat) (q2 : Nat) (wx : World) (hS : RingS w a b c wx) (h1 : RingB w wx q1 Zf) (h2 : RingB w wx q2 Zf) (n12 : q1 ≠ q2) :
    wpAnyH Try.prog .any ringOps Q (RingS w a b c) 7 #[true, false, true, false, true, false, false, true, true, false, false, false] (ringAct a b c p0 p1 p2 undef (Value.pointer (some ⟨q1, 0, none⟩)) (Value.pointer (some ⟨q2, 0, none⟩)) (W a) undef (W b) undef (W c) undef) wx := by
  refine wpAnyH_ready (rs := [1, 6]) (by kernel_rfl) (by simp) ?_
  refine AllReadyH.cons (o := { dst := some 16, op := Op.call { callee := Callee.value (Operand.func 14), args := #[Operand.tmp 15], argTypes := #[24] }, type := 26, pos := "law.go:98", after := #[{ on := 0, ground := Ground.data }], guard := none }) rfl (fun K hK => ?_) ?_
  · go_simp; refine (law_own _ _).mono ?_; rintro e w7 ⟨rfl, hS7⟩
    refine hK.out _ _ (hS.since hS7) (fun hHeld => ?_)
    exact ring_1_12_0 a b c p0 p1 p2 w hQ _ _ _ hHeld (h1.since hS7) (h2.since hS7) n12
  refine AllReadyH.cons (o := { dst := some 7, op := Op.alloc 26, type := 0, pos := "law.go:98", after := #[], guard := none }) rfl (fun K hK => ?_) ?_
  · go_simp
    refine hK.out _ _ (hS.alloc _) (fun hHeld => ?_)
    exact ring_0_012_0 a b c p0 p1 p2 w hQ _ _ _ _ hHeld (hS.new _) (h1.alloc _) (h2.alloc _) h1.ne.symm h2.ne.symm n12
  exact AllReadyH.nil
theorem ring_0_0_0 {Q : Exit → Act → World → Prop} (a b c : Int) (p0 p1 p2 : Value) (w : World) (hQ : ∀ (q0 q1 q2 : Nat) (wx : World), RingS w a b c wx → RingB w wx q0 (Wf a) → RingB w wx q1 (Wf b) → RingB w wx q2 (Wf c) → Q .normal (ringAct a b c p0 p1 p2 (Value.pointer (some ⟨q0, 0, none⟩)) (Value.pointer (some ⟨q1, 0, none⟩)) (Value.pointer (some ⟨q2, 0, none⟩)) (W a) (W a) (W b) (W b) (W c) (W c)) wx) (q0 : Nat) (wx : World) (hS : RingS w a b c wx) (h0 : RingB w wx q0 Zf) :
    wpAnyH Try.prog .any ringOps Q (RingS w a b c) 8 #[true, false, true, false, true, false, true, false, false, false, false, false] (ringAct a b c p0 p1 p2 (Value.pointer (some ⟨q0, 0, none⟩)) undef undef (W a) undef (W b) undef (W c) undef) wx := by
  refine wpAnyH_ready (rs := [1, 7, 8]) (by kernel_rfl) (by simp) ?_
  refine AllReadyH.cons (o := { dst := some 16, op := Op.call { callee := Callee.value (Operand.func 14), args := #[Operand.tmp 15], argTypes := #[24] }, type := 26, pos := "law.go:98", after := #[{ on := 0, ground := Ground.data }], guard := none }) rfl (fun K hK => ?_) ?_
  · go_simp; refine (law_own _ _).mono ?_; rintro e w7 ⟨rfl, hS7⟩
    refine hK.out _ _ (hS.since hS7) (fun hHeld => ?_)
    exact ring_1_0_0 a b c p0 p1 p2 w hQ _ _ hHeld (h0.since hS7) 
  refine AllReadyH.cons (o := { dst := some 8, op := Op.alloc 26, type := 0, pos := "law.go:98", after := #[], guard := none }) rfl (fun K hK => ?_) ?_
  · go_simp
    refine hK.out _ _ (hS.alloc _) (fun hHeld => ?_)
    exact ring_0_01_0 a b c p0 p1 p2 w hQ _ _ _ hHeld (h0.alloc _) (hS.new _) h0.ne
  refine AllReadyH.cons (o := { dst := some 9, op := Op.alloc 26, type := 0, pos := "law.go:98", after := #[], guard := none }) rfl (fun K hK => ?_) ?_
  · go_simp
    refine hK.out _ _ (hS.alloc _) (fun hHeld => ?_)
    exact ring_0_02_0 a b c p0 p1 p2 w hQ _ _ _ hHeld (h0.alloc _) (hS.new _) h0.ne
  exact AllReadyH.nil
theorem ring_0_1_0 {Q : Exit → Act → World → Prop} (a b c : Int) (p0 p1 p2 : Value) (w : World) (hQ : ∀ (q0 q1 q2 : Nat) (wx : World), RingS w a b c wx → RingB w wx q0 (Wf a) → RingB w wx q1 (Wf b) → RingB w wx q2 (Wf c) → Q .normal (ringAct a b c p0 p1 p2 (Value.pointer (some ⟨q0, 0, none⟩)) (Value.pointer (some ⟨q1, 0, none⟩)) (Value.pointer (some ⟨q2, 0, none⟩)) (W a) (W a) (W b) (W b) (W c) (W c)) wx) (q1 : Nat) (wx : World) (hS : RingS w a b c wx) (h1 : RingB w wx q1 Zf) :
    wpAnyH Try.prog .any ringOps Q (RingS w a b c) 8 #[true, false, true, false, true, false, false, true, false, false, false, false] (ringAct a b c p0 p1 p2 undef (Value.pointer (some ⟨q1, 0, none⟩)) undef (W a) undef (W b) undef (W c) undef) wx := by
  refine wpAnyH_ready (rs := [1, 6, 8]) (by kernel_rfl) (by simp) ?_
  refine AllReadyH.cons (o := { dst := some 16, op := Op.call { callee := Callee.value (Operand.func 14), args := #[Operand.tmp 15], argTypes := #[24] }, type := 26, pos := "law.go:98", after := #[{ on := 0, ground := Ground.data }], guard := none }) rfl (fun K hK => ?_) ?_
  · go_simp; refine (law_own _ _).mono ?_; rintro e w7 ⟨rfl, hS7⟩
    refine hK.out _ _ (hS.since hS7) (fun hHeld => ?_)
    exact ring_1_1_0 a b c p0 p1 p2 w hQ _ _ hHeld (h1.since hS7) 
  refine AllReadyH.cons (o := { dst := some 7, op := Op.alloc 26, type := 0, pos := "law.go:98", after := #[], guard := none }) rfl (fun K hK => ?_) ?_
  · go_simp
    refine hK.out _ _ (hS.alloc _) (fun hHeld => ?_)
    exact ring_0_01_0 a b c p0 p1 p2 w hQ _ _ _ hHeld (hS.new _) (h1.alloc _) h1.ne.symm
  refine AllReadyH.cons (o := { dst := some 9, op := Op.alloc 26, type := 0, pos := "law.go:98", after := #[], guard := none }) rfl (fun K hK => ?_) ?_
  · go_simp
    refine hK.out _ _ (hS.alloc _) (fun hHeld => ?_)
    exact ring_0_12_0 a b c p0 p1 p2 w hQ _ _ _ hHeld (h1.alloc _) (hS.new _) h1.ne
  exact AllReadyH.nil
theorem ring_0_2_0 {Q : Exit → Act → World → Prop} (a b c : Int) (p0 p1 p2 : Value) (w : World) (hQ : ∀ (q0 q1 q2 : Nat) (wx : World), RingS w a b c wx → RingB w wx q0 (Wf a) → RingB w wx q1 (Wf b) → RingB w wx q2 (Wf c) → Q .normal (ringAct a b c p0 p1 p2 (Value.pointer (some ⟨q0, 0, none⟩)) (Value.pointer (some ⟨q1, 0, none⟩)) (Value.pointer (some ⟨q2, 0, none⟩)) (W a) (W a) (W b) (W b) (W c) (W c)) wx) (q2 : Nat) (wx : World) (hS : RingS w a b c wx) (h2 : RingB w wx q2 Zf) :
    wpAnyH Try.prog .any ringOps Q (RingS w a b c) 8 #[true, false, true, false, true, false, false, false, true, false, false, false] (ringAct a b c p0 p1 p2 undef undef (Value.pointer (some ⟨q2, 0, none⟩)) (W a) undef (W b) undef (W c) undef) wx := by
  refine wpAnyH_ready (rs := [1, 6, 7]) (by kernel_rfl) (by simp) ?_
  refine AllReadyH.cons (o := { dst := some 16, op := Op.call { callee := Callee.value (Operand.func 14), args := #[Operand.tmp 15], argTypes := #[24] }, type := 26, pos := "law.go:98", after := #[{ on := 0, ground := Ground.data }], guard := none }) rfl (fun K hK => ?_) ?_
  · go_simp; refine (law_own _ _).mono ?_; rintro e w7 ⟨rfl, hS7⟩
    refine hK.out _ _ (hS.since hS7) (fun hHeld => ?_)
    exact ring_1_2_0 a b c p0 p1 p2 w hQ _ _ hHeld (h2.since hS7) 
  refine AllReadyH.cons (o := { dst := some 7, op := Op.alloc 26, type := 0, pos := "law.go:98", after := #[], guard := none }) rfl (fun K hK => ?_) ?_
  · go_simp
    refine hK.out _ _ (hS.alloc _) (fun hHeld => ?_)
    exact ring_0_02_0 a b c p0 p1 p2 w hQ _ _ _ hHeld (hS.new _) (h2.alloc _) h2.ne.symm
  refine AllReadyH.cons (o := { dst := some 8, op := Op.alloc 26, type := 0, pos := "law.go:98", after := #[], guard := none }) rfl (fun K hK => ?_) ?_
  · go_simp
    refine hK.out _ _ (hS.alloc _) (fun hHeld => ?_)
    exact ring_0_12_0 a b c p0 p1 p2 w hQ _ _ _ hHeld (hS.new _) (h2.alloc _) h2.ne.symm
  exact AllReadyH.nil
theorem ring_0_n_0 {Q : Exit → Act → World → Prop} (a b c : Int) (p0 p1 p2 : Value) (w : World) (hQ : ∀ (q0 q1 q2 : Nat) (wx : World), RingS w a b c wx → RingB w wx q0 (Wf a) → RingB w wx q1 (Wf b) → RingB w wx q2 (Wf c) → Q .normal (ringAct a b c p0 p1 p2 (Value.pointer (some ⟨q0, 0, none⟩)) (Value.pointer (some ⟨q1, 0, none⟩)) (Value.pointer (some ⟨q2, 0, none⟩)) (W a) (W a) (W b) (W b) (W c) (W c)) wx) (wx : World) (hS : RingS w a b c wx) :
    wpAnyH Try.prog .any ringOps Q (RingS w a b c) 9 #[true, false, true, false, true, false, false, false, false, false, false, false] (ringAct a b c p0 p1 p2 undef undef undef (W a) undef (W b) undef (W c) undef) wx := by
  refine wpAnyH_ready (rs := [1, 6, 7, 8]) (by kernel_rfl) (by simp) ?_
  refine AllReadyH.cons (o := { dst := some 16, op := Op.call { callee := Callee.value (Operand.func 14), args := #[Operand.tmp 15], argTypes := #[24] }, type := 26, pos := "law.go:98", after := #[{ on := 0, ground := Ground.data }], guard := none }) rfl (fun K hK => ?_) ?_
  · go_simp; refine (law_own _ _).mono ?_; rintro e w7 ⟨rfl, hS7⟩
    refine hK.out _ _ (hS.since hS7) (fun hHeld => ?_)
    exact ring_1_n_0 a b c p0 p1 p2 w hQ  _ hHeld  
  refine AllReadyH.cons (o := { dst := some 7, op := Op.alloc 26, type := 0, pos := "law.go:98", after := #[], guard := none }) rfl (fun K hK => ?_) ?_
  · go_simp
    refine hK.out _ _ (hS.alloc _) (fun hHeld => ?_)
    exact ring_0_0_0 a b c p0 p1 p2 w hQ _ _ hHeld (hS.new _) 
  refine AllReadyH.cons (o := { dst := some 8, op := Op.alloc 26, type := 0, pos := "law.go:98", after := #[], guard := none }) rfl (fun K hK => ?_) ?_
  · go_simp
    refine hK.out _ _ (hS.alloc _) (fun hHeld => ?_)
    exact ring_0_1_0 a b c p0 p1 p2 w hQ _ _ hHeld (hS.new _) 
  refine AllReadyH.cons (o := { dst := some 9, op := Op.alloc 26, type := 0, pos := "law.go:98", after := #[], guard := none }) rfl (fun K hK => ?_) ?_
  · go_simp
    refine hK.out _ _ (hS.alloc _) (fun hHeld => ?_)
    exact ring_0_2_0 a b c p0 p1 p2 w hQ _ _ hHeld (hS.new _) 
  exact AllReadyH.nil

set_option maxHeartbeats 4000000 in
/-- The region. -/
theorem ring_region {id : Nat} {Q : Exit → Act → World → Prop} (a b c : Int) (p0 p1 p2 : Value) (w : World) (hQ : ∀ (q0 q1 q2 : Nat) (wx : World), RingS w a b c wx → RingB w wx q0 (Wf a) → RingB w wx q1 (Wf b) → RingB w wx q2 (Wf c) → Q .normal (ringAct a b c p0 p1 p2 (Value.pointer (some ⟨q0, 0, none⟩)) (Value.pointer (some ⟨q1, 0, none⟩)) (Value.pointer (some ⟨q2, 0, none⟩)) (W a) (W a) (W b) (W b) (W c) (W c)) wx) (hP : ∀ (c : _) (a : Act) (d : Nat) (v : Value) (w : World), Q (.panic c) (a.put (some d) v) w → Q (.panic c) a w) (hp0 : p0 = Value.pointer (some ⟨w.heap.size, 0, none⟩)) (hp1 : p1 = Value.pointer (some ⟨w.heap.size + 1, 0, none⟩)) (hp2 : p2 = Value.pointer (some ⟨w.heap.size + 1 + 1, 0, none⟩)) (wx : World) (hS : RingS w a b c wx) :
    (Code.region id ringOps true).wp Try.prog Q (ringAct a b c p0 p1 p2 undef undef undef undef undef undef undef undef undef) wx := by
  subst hp0 hp1 hp2
  have hS0 : RingS w a b c wx.drew := ⟨hS.1.drew, hS.2.1.drew, hS.2.2.1.drew, hS.2.2.2.drew⟩
  refine wp_region_held_drew (S := RingS w a b c) (by kernel_rfl) hS0 (fun hHeld => ?_)
  refine wpAnyH_take (i := 0) (oi := { dst := some 15, op := Op.load 24 (Operand.tmp 3), type := 24, pos := "law.go:98", after := #[], guard := none }) (v := W a) rfl (by kernel_rfl) (by kernel_rfl) (by kernel_rfl) (fun c a w => hP c a _ _ w) (Or.inl ⟨by rfl, ?_⟩) hHeld ?_
  · intro w1 h1; obtain ⟨_, hA, hB, hC⟩ := h1; obtain ⟨hA1, hA2, hA3⟩ := wcells hA; obtain ⟨hB1, hB2, hB3⟩ := wcells hB; obtain ⟨hC1, hC2, hC3⟩ := wcells hC; go_simp
  refine wpAnyH_take (i := 2) (oi := { dst := some 17, op := Op.load 24 (Operand.tmp 4), type := 24, pos := "law.go:98", after := #[], guard := none }) (v := W b) rfl (by kernel_rfl) (by kernel_rfl) (by kernel_rfl) (fun c a w => hP c a _ _ w) (Or.inl ⟨by rfl, ?_⟩) hHeld ?_
  · intro w1 h1; obtain ⟨_, hA, hB, hC⟩ := h1; obtain ⟨hA1, hA2, hA3⟩ := wcells hA; obtain ⟨hB1, hB2, hB3⟩ := wcells hB; obtain ⟨hC1, hC2, hC3⟩ := wcells hC; go_simp
  refine wpAnyH_take (i := 4) (oi := { dst := some 19, op := Op.load 24 (Operand.tmp 5), type := 24, pos := "law.go:98", after := #[], guard := none }) (v := W c) rfl (by kernel_rfl) (by kernel_rfl) (by kernel_rfl) (fun c a w => hP c a _ _ w) (Or.inl ⟨by rfl, ?_⟩) hHeld ?_
  · intro w1 h1; obtain ⟨_, hA, hB, hC⟩ := h1; obtain ⟨hA1, hA2, hA3⟩ := wcells hA; obtain ⟨hB1, hB2, hB3⟩ := wcells hB; obtain ⟨hC1, hC2, hC3⟩ := wcells hC; go_simp
  exact ring_0_n_0 a b c _ _ _ w hQ _ hHeld
end Go.Proofs.Ytckochcocflleaa
