/-
  Texts of this seat, put together: each with its own head.
-/
import Derived.Test.YtckochcocflleaaRows
import Derived.WalkKit
import Derived.Lib.Mul64
import Derived.Laws.Bits64b
import Derived.ProofKit
import Derived.OpenShut
import Derived.Laws.ResultCell
import Derived.Deep.RegionHeld3
import Derived.Lib.Hide
import Derived.Deep.Draws
import Derived.Laws.OwnMore
import Derived.Laws.BytesArg
import Derived.Maps.AppendAt
import Derived.Deep.AppendLies
import Derived.Laws.CopyOwn
import Derived.OwnWalk

/-
  What math/bits.Add64, Sub64 and Mul64 come to over this translation; no condition but that words are words.
-/
namespace Go.Proofs.Ytckochcocflleaa
open Go.RowKit Go.Lib

theorem add64 (x y c : Int) (hx : 0 ≤ x) (hy : 0 ≤ y) (hc0 : 0 ≤ c) (hc : c ≤ 1) (w : World) :
    (callFunc 55 #[.int .u64 x, .int .u64 y, .int .u64 c]).run Try.prog w =
      .ok (.value (.tuple #[.int .u64 ((x + y + c) % 18446744073709551616), .int .u64 ((x + y + c) / 18446744073709551616)])) w := by
  rw [run_callFunc_extern Try.func55 (by kernel_rfl) (by kernel_rfl) (by kernel_rfl) (e := add64Entry) (by kernel_rfl), run_add64 x y c hx hy hc0 hc]
  rfl
theorem add64_0 (x y : Int) (hx : 0 ≤ x) (hy : 0 ≤ y) (w : World) :
    (callFunc 55 #[.int .u64 x, .int .u64 y, .int .u64 0]).run Try.prog w =
      .ok (.value (.tuple #[.int .u64 ((x + y) % 18446744073709551616), .int .u64 ((x + y) / 18446744073709551616)])) w := by
  simpa using add64 x y 0 hx hy (Int.le_refl 0) (by decide) w

def sub64Entry : Array Value → Sem Value := fun args => do
  let (x, y, b) ← Extern.MathBitsCarry.three "Sub64" args
  pure (Extern.MathBitsCarry.pair ((x + Extern.MathBitsCarry.m64 - y - b) % Extern.MathBitsCarry.m64) (if x < y + b then 1 else 0))
theorem run_sub64 {P : Program} (x y b : Nat) (hb : b ≤ 1) (w : World) :
    (sub64Entry #[.int .u64 x, .int .u64 y, .int .u64 b]).run P w =
      .ok (.tuple #[.int .u64 (((x + 18446744073709551616 - y - b) % 18446744073709551616 : Nat) : Int), .int .u64 ((if x < y + b then 1 else 0 : Nat) : Int)]) w := by
  have : b = 0 ∨ b = 1 := by omega
  rcases this with rfl | rfl <;> rfl
/-- The borrow, under a name. -/
def bor (x y : Int) : Int := if x < y then 1 else 0
theorem bor_bd (x y : Int) : 0 ≤ bor x y ∧ bor x y ≤ 1 := by unfold bor; split <;> omega
theorem sub64 (x y b : Int) (hx : 0 ≤ x) (hy : 0 ≤ y) (hy' : y < 18446744073709551616) (hb0 : 0 ≤ b) (hb : b ≤ 1) (w : World) :
    (callFunc 56 #[.int .u64 x, .int .u64 y, .int .u64 b]).run Try.prog w =
      .ok (.value (.tuple #[.int .u64 ((x - y - b) % 18446744073709551616), .int .u64 (bor x (y + b))])) w := by
  obtain ⟨x, rfl⟩ := Int.eq_ofNat_of_zero_le hx
  obtain ⟨y, rfl⟩ := Int.eq_ofNat_of_zero_le hy
  obtain ⟨b, rfl⟩ := Int.eq_ofNat_of_zero_le hb0
  have e1 : (((x + 18446744073709551616 - y - b) % 18446744073709551616 : Nat) : Int) = ((x : Int) - y - b) % 18446744073709551616 := by omega
  have e2 : ((if x < y + b then 1 else 0 : Nat) : Int) = bor (x : Int) (y + b) := by unfold bor; split <;> split <;> omega
  rw [← e1, ← e2]
  rw [run_callFunc_extern Try.func56 (by kernel_rfl) (by kernel_rfl) (by kernel_rfl) (e := sub64Entry) (by kernel_rfl), run_sub64 x y b (by omega)]
  rfl
theorem sub64_0 (x y : Int) (hx : 0 ≤ x) (hy : 0 ≤ y) (hy' : y < 18446744073709551616) (w : World) :
    (callFunc 56 #[.int .u64 x, .int .u64 y, .int .u64 0]).run Try.prog w =
      .ok (.value (.tuple #[.int .u64 ((x - y) % 18446744073709551616), .int .u64 (bor x y)])) w := by
  simpa using sub64 x y 0 hx hy hy' (Int.le_refl 0) (by decide) w

namespace Mul64
theorem maskN (a : Nat) (ha : a < 18446744073709551616) : bits .and .u64 (a : Int) 4294967295 = ((a % 4294967296 : Nat) : Int) := by
  have h := bits_and_u64_nat a 4294967295 ha (by omega)
  have e : a &&& 4294967295 = a % 4294967296 := Nat.and_two_pow_sub_one_eq_mod a 32
  rw [e] at h
  exact h
theorem divN (a : Nat) : (a : Int) / 4294967296 = ((a / 4294967296 : Nat) : Int) := by omega
theorem mulN (a b : Nat) : (a : Int) * (b : Int) = ((a * b : Nat) : Int) := (Int.natCast_mul a b).symm
theorem addN (a b : Nat) : (a : Int) + (b : Int) = ((a + b : Nat) : Int) := (Int.natCast_add a b).symm
theorem wrapN (a : Nat) (ha : a < 18446744073709551616) : IntKind.u64.wrap (a : Int) = (a : Int) := by rw [IntKind.wrap_u64]; omega
theorem wrapM (a : Nat) : IntKind.u64.wrap (a : Int) = ((a % 18446744073709551616 : Nat) : Int) := by rw [IntKind.wrap_u64]; omega
end Mul64

set_option maxHeartbeats 1000000 in
theorem mul64N (x y : Nat) (hx : x < 18446744073709551616) (hy : y < 18446744073709551616) (w : World) :
    Calls Try.prog 57 #[.int .u64 x, .int .u64 y] w fun e w' => e = .returned (.tuple #[.int .u64 ((x * y / 18446744073709551616 : Nat) : Int), .int .u64 ((x * y % 18446744073709551616 : Nat) : Int)]) ∧ w' = w := by
  obtain ⟨bd, bt, bw, hhi⟩ := Lib.mul64_hi x y hx hy
  have ba := Lib.half_mul_le (a := x / 4294967296) (b := y / 4294967296) (by omega) (by omega)
  have bb := Lib.half_mul_le (a := x / 4294967296) (b := y % 4294967296) (by omega) (by omega)
  have bc := Lib.half_mul_le (a := x % 4294967296) (b := y / 4294967296) (by omega) (by omega)
  have ba' : x / 4294967296 * (y / 4294967296) < 18446744073709551616 := by omega
  have bb' : x / 4294967296 * (y % 4294967296) < 18446744073709551616 := by omega
  have bc' : x % 4294967296 * (y / 4294967296) < 18446744073709551616 := by omega
  have bh1 : x / 4294967296 * (y / 4294967296) + (x / 4294967296 * (y % 4294967296) + x % 4294967296 * (y % 4294967296) / 4294967296) / 4294967296 < 18446744073709551616 := by omega
  have bh : x / 4294967296 * (y / 4294967296) + (x / 4294967296 * (y % 4294967296) + x % 4294967296 * (y % 4294967296) / 4294967296) / 4294967296 + ((x / 4294967296 * (y % 4294967296) + x % 4294967296 * (y % 4294967296) / 4294967296) % 4294967296 + x % 4294967296 * (y / 4294967296)) / 4294967296 < 18446744073709551616 := by omega
  go_enter Try.func57, Try.ntmps57
  go_wp2
  simp only [Mul64.maskN x hx, Mul64.maskN y hy, Mul64.divN, Mul64.mulN, Mul64.addN, Mul64.wrapN _ bd, Mul64.wrapN _ bb', Mul64.wrapN _ bt, Mul64.maskN _ bt, Mul64.wrapN _ bc', Mul64.wrapN _ bw, Mul64.wrapN _ ba', Mul64.wrapN _ bh1, Mul64.wrapN _ bh, Mul64.wrapM (x * y)]
  rw [hhi]
  go_ret2
  exact ⟨rfl, rfl⟩
theorem mul64 (x y : Int) (hx : 0 ≤ x) (hx' : x < 18446744073709551616) (hy : 0 ≤ y) (hy' : y < 18446744073709551616) (w : World) :
    Calls Try.prog 57 #[.int .u64 x, .int .u64 y] w fun e w' => e = .returned (.tuple #[.int .u64 (x * y / 18446744073709551616), .int .u64 (x * y % 18446744073709551616)]) ∧ w = w' := by
  obtain ⟨x, rfl⟩ := Int.eq_ofNat_of_zero_le hx
  obtain ⟨y, rfl⟩ := Int.eq_ofNat_of_zero_le hy
  refine (mul64N x y (by omega) (by omega) w).mono ?_
  rintro e w' ⟨rfl, rfl⟩
  exact ⟨rfl, rfl⟩
end Go.Proofs.Ytckochcocflleaa

/-
  Numbers of two words, as plain arithmetic: n is hiW n times 2^64 and loW n.
-/
namespace Go.Proofs.Ytckochcocflleaa
open Go.RowKit

def hiW (n : Int) : Int := n / 18446744073709551616
def loW (n : Int) : Int := n % 18446744073709551616
def w128 (n : Int) : Int := (n + 170141183460469231731687303715884105728) % 340282366920938463463374607431768211456 - 170141183460469231731687303715884105728
def In128 (n : Int) : Prop := -170141183460469231731687303715884105728 ≤ n ∧ n < 170141183460469231731687303715884105728
def InW (n : Int) : Prop := -9223372036854775808 ≤ n ∧ n < 9223372036854775808
/-- The number as the program has it. -/
@[reducible] def W (n : Int) : Value := .agg #[.int .i64 (hiW n), .int .u64 (loW n)]

theorem lo_bd (n : Int) : 0 ≤ loW n ∧ loW n < 18446744073709551616 := by unfold loW; omega
theorem hi_bd {n : Int} (h : In128 n) : -9223372036854775808 ≤ hiW n ∧ hiW n < 9223372036854775808 := by unfold In128 at h; unfold hiW; omega
theorem hi_lo (n : Int) : hiW n * 18446744073709551616 + loW n = n := by unfold hiW loW; omega
theorem w128_in (n : Int) : In128 (w128 n) := by unfold In128 w128; omega
theorem w128_of {n : Int} (h : In128 n) : w128 n = n := by unfold In128 at h; unfold w128; omega
theorem in64_in {n : Int} (h : InW n) : In128 n := by unfold InW at h; unfold In128; omega
theorem hi_mk (h l : Int) (l0 : 0 ≤ l) (l1 : l < 18446744073709551616) : hiW (h * 18446744073709551616 + l) = h := by unfold hiW; omega
theorem lo_mk (h l : Int) (l0 : 0 ≤ l) (l1 : l < 18446744073709551616) : loW (h * 18446744073709551616 + l) = l := by unfold loW; omega
theorem mk_in (h l : Int) (h0 : -9223372036854775808 ≤ h) (h1 : h < 9223372036854775808) (l0 : 0 ≤ l) (l1 : l < 18446744073709551616) : In128 (h * 18446744073709551616 + l) := by unfold In128; omega
theorem eq_iff (a b : Int) : a = b ↔ hiW a = hiW b ∧ loW a = loW b := by
  constructor
  · rintro rfl; exact ⟨rfl, rfl⟩
  · rintro ⟨h1, h2⟩; rw [← hi_lo a, ← hi_lo b, h1, h2]
/-- Two words that make the number up to 2^128 are the number's. -/
theorem W_mk {n h l : Int} (h0 : -9223372036854775808 ≤ h) (h1 : h < 9223372036854775808) (l0 : 0 ≤ l) (l1 : l < 18446744073709551616) (e : (h * 18446744073709551616 + l - n) % 340282366920938463463374607431768211456 = 0) : Value.agg #[.int .i64 h, .int .u64 l] = W (w128 n) := by
  have : w128 n = h * 18446744073709551616 + l := by unfold w128; omega
  rw [this]; unfold W; rw [hi_mk h l l0 l1, lo_mk h l l0 l1]
end Go.Proofs.Ytckochcocflleaa

/-
  Words of this proof's own for what a call leaves of the world: 'Since w w2': all that was there reads as it did, and nothing has gone.
-/
namespace Go.Proofs.Ytckochcocflleaa
open Go.RowKit Go.ChangeShapes Go.WideShapes

def Since (w w' : World) : Prop := (∀ b o, b < w.heap.size → w'.cell? ⟨b, o, none⟩ = w.cell? ⟨b, o, none⟩) ∧ (∀ b o, b < w.heap.size → w'.frozen? ⟨b, o, none⟩ = w.frozen? ⟨b, o, none⟩) ∧ (∀ k, k < w.heap.size → k < w'.heap.size) ∧ Below w.heap.size w w'

theorem since_of {w w' : World} (h : Below w.heap.size w w') : Since w w' :=
  ⟨fun b o hb => h.cell (p := ⟨b, o, none⟩) hb, fun b o hb => h.frozen (p := ⟨b, o, none⟩) hb, fun _ hk => Nat.lt_of_lt_of_le hk h.size, h⟩
theorem Since.below {w w' : World} (h : Since w w') : Below w.heap.size w w' := h.2.2.2
theorem Since.refl (w : World) : Since w w := since_of (Below.refl _ _)
theorem Since.trans {a b c : World} (h : Since a b) (k : Since b c) : Since a c := since_of (h.below.trans (k.below.mono h.below.size))
theorem Since.drew {a w : World} (h : Since a w) : Since a w.drew := since_of h.below.drew
theorem Since.alloc {a w : World} (h : Since a w) (o : Obj) : Since a (w.alloc o) := since_of (h.below.alloc h.below.size o)
theorem Since.setCell {a w : World} (h : Since a w) {p : Addr} (hp : a.heap.size ≤ p.block) (u : Value) : Since a (w.setCell p u) := since_of (h.below.setCell hp u)
theorem Since.drewN {a w : World} (h : Since a w) (n : Nat) : Since a (w.drewN n) := since_of ⟨h.below.os, h.below.tape, h.below.output, h.below.size, h.below.block⟩
/-- What a step kept, in the four parts that the walk uses as rules. -/
theorem since_step {w0 w1 w2 : World} (h : (∀ b o, b < w0.heap.size → w1.cell? ⟨b, o, none⟩ = w0.cell? ⟨b, o, none⟩) ∧ (∀ b o, b < w0.heap.size → w1.frozen? ⟨b, o, none⟩ = w0.frozen? ⟨b, o, none⟩) ∧ (∀ k, k < w0.heap.size → k < w1.heap.size) ∧ Below w0.heap.size w0 w1) (k : Since w1 w2) :
    (∀ b o, b < w0.heap.size → w2.cell? ⟨b, o, none⟩ = w0.cell? ⟨b, o, none⟩) ∧ (∀ b o, b < w0.heap.size → w2.frozen? ⟨b, o, none⟩ = w0.frozen? ⟨b, o, none⟩) ∧ (∀ k, k < w0.heap.size → k < w2.heap.size) ∧ Below w0.heap.size w0 w2 := Since.trans h k
theorem since_put {w0 w1 : World} (h : (∀ b o, b < w0.heap.size → w1.cell? ⟨b, o, none⟩ = w0.cell? ⟨b, o, none⟩) ∧ (∀ b o, b < w0.heap.size → w1.frozen? ⟨b, o, none⟩ = w0.frozen? ⟨b, o, none⟩) ∧ (∀ k, k < w0.heap.size → k < w1.heap.size) ∧ Below w0.heap.size w0 w1) {p : Addr} (hp : w0.heap.size ≤ p.block) (v : Value) :
    (∀ b o, b < w0.heap.size → (w1.setCell p v).cell? ⟨b, o, none⟩ = w0.cell? ⟨b, o, none⟩) ∧ (∀ b o, b < w0.heap.size → (w1.setCell p v).frozen? ⟨b, o, none⟩ = w0.frozen? ⟨b, o, none⟩) ∧ (∀ k, k < w0.heap.size → k < (w1.setCell p v).heap.size) ∧ Below w0.heap.size w0 (w1.setCell p v) := since_of (h.2.2.2.setCell hp v)
/-- The world under a name, and what the name stands for. -/
theorem wp_named {P : Program} {c : Code} {Q : Exit → Act → World → Prop} {a : Act} {w : World} (h : ∀ w0, w0 = w → c.wp P Q a w0) : c.wp P Q a w := h w rfl

/-- A cell behind a store, whatever the store: by the two addresses' numbers. -/
theorem cell_set (w : World) (b o b' o' : Nat) (v : Value) : (w.setCell ⟨b, o, none⟩ v).cell? ⟨b', o', none⟩ = if b = b' ∧ o = o' then (w.cell? ⟨b', o', none⟩).map (fun _ => v) else w.cell? ⟨b', o', none⟩ := by
  split
  · rename_i h
    obtain ⟨rfl, rfl⟩ := h
    cases hc : w.cell? ⟨b, o, none⟩ with
    | some u => rw [Option.map_some]; exact World.cell?_setCell_same _ _ _ hc
    | none =>
      rw [Option.map_none]
      unfold World.cell? at hc ⊢
      simp only [World.setCell, Array.getElem?_modify, ↓reduceIte, Option.isSome_none, Bool.false_eq_true] at hc ⊢
      cases hh : w.heap[b]? with
      | none => simp
      | some x =>
        rw [hh] at hc
        cases x <;> simp_all
  · rename_i h
    exact World.cell?_setCell_other w ⟨b, o, none⟩ ⟨b', o', none⟩ v (fun e => h (by injection e; exact ⟨‹_›, ‹_›⟩))

attribute [go_sem] cell_set
theorem map_there {o : Option Value} {v : Value} (h : o.isSome = true) : o.map (fun _ => v) = some v := by cases o <;> simp_all
attribute [go_sem] map_there
theorem there_of {o : Option Value} {v : Value} (h : o = some v) : o.isSome = true := by rw [h]; rfl
theorem there_set (w : World) (b o b' o' : Nat) (v : Value) : ((w.setCell ⟨b, o, none⟩ v).cell? ⟨b', o', none⟩).isSome = (w.cell? ⟨b', o', none⟩).isSome := by
  rw [cell_set]
  split
  · rw [Option.isSome_map]
  · rfl
/-- What a cell that is there holds, under a name. -/
def cellD (w : World) (r o : Nat) : Value := (w.cell? ⟨r, o, none⟩).getD undef
theorem cellD_of {w : World} {r o : Nat} (h : (w.cell? ⟨r, o, none⟩).isSome = true) : w.cell? ⟨r, o, none⟩ = some (cellD w r o) := by
  unfold cellD; cases hc : w.cell? ⟨r, o, none⟩ with
  | none => rw [hc] at h; cases h
  | some u => rfl
theorem sr_start {r m : Nat} {w0 : World} (h : ∀ o, o < m → (w0.cell? ⟨r, o, none⟩).isSome = true) : (∀ b o, b < r → w0.cell? ⟨b, o, none⟩ = w0.cell? ⟨b, o, none⟩) ∧ (∀ b o, b < w0.heap.size → w0.frozen? ⟨b, o, none⟩ = w0.frozen? ⟨b, o, none⟩) ∧ (∀ k, k < w0.heap.size → k < w0.heap.size) ∧ Below r w0 w0 ∧ (∀ o, o < m → w0.cell? ⟨r, o, none⟩ = some (cellD w0 r o)) :=
  ⟨fun _ _ _ => rfl, fun _ _ _ => rfl, fun _ h => h, Below.refl _ _, fun o ho => cellD_of (h o ho)⟩
theorem sr_step {r m : Nat} {w0 w1 w2 : World} (hr : r < w0.heap.size) (h : (∀ b o, b < r → w1.cell? ⟨b, o, none⟩ = w0.cell? ⟨b, o, none⟩) ∧ (∀ b o, b < w0.heap.size → w1.frozen? ⟨b, o, none⟩ = w0.frozen? ⟨b, o, none⟩) ∧ (∀ k, k < w0.heap.size → k < w1.heap.size) ∧ Below r w0 w1 ∧ (∀ o, o < m → w1.cell? ⟨r, o, none⟩ = some (cellD w1 r o))) (k : Since w1 w2) :
    (∀ b o, b < r → w2.cell? ⟨b, o, none⟩ = w0.cell? ⟨b, o, none⟩) ∧ (∀ b o, b < w0.heap.size → w2.frozen? ⟨b, o, none⟩ = w0.frozen? ⟨b, o, none⟩) ∧ (∀ k, k < w0.heap.size → k < w2.heap.size) ∧ Below r w0 w2 ∧ (∀ o, o < m → w2.cell? ⟨r, o, none⟩ = some (cellD w2 r o)) := by
  obtain ⟨h1, h2, h3, h4, h5⟩ := h
  exact ⟨fun b o hb => (k.1 b o (h3 b (by omega))).trans (h1 b o hb), fun b o hb => (k.2.1 b o (h3 b hb)).trans (h2 b o hb), fun j hj => k.2.2.1 j (h3 j hj), h4.trans (k.below.mono (Nat.le_of_lt (h3 r hr))), fun o ho => cellD_of (by rw [k.1 r o (h3 r hr), h5 o ho]; rfl)⟩
theorem sr_set {r m : Nat} {w0 w1 : World} (h : (∀ b o, b < r → w1.cell? ⟨b, o, none⟩ = w0.cell? ⟨b, o, none⟩) ∧ (∀ b o, b < w0.heap.size → w1.frozen? ⟨b, o, none⟩ = w0.frozen? ⟨b, o, none⟩) ∧ (∀ k, k < w0.heap.size → k < w1.heap.size) ∧ Below r w0 w1 ∧ (∀ o, o < m → w1.cell? ⟨r, o, none⟩ = some (cellD w1 r o))) (j : Nat) (v : Value) :
    (∀ b o, b < r → (w1.setCell ⟨r, j, none⟩ v).cell? ⟨b, o, none⟩ = w0.cell? ⟨b, o, none⟩) ∧ (∀ b o, b < w0.heap.size → (w1.setCell ⟨r, j, none⟩ v).frozen? ⟨b, o, none⟩ = w0.frozen? ⟨b, o, none⟩) ∧ (∀ k, k < w0.heap.size → k < (w1.setCell ⟨r, j, none⟩ v).heap.size) ∧ Below r w0 (w1.setCell ⟨r, j, none⟩ v) ∧ (∀ o, o < m → (w1.setCell ⟨r, j, none⟩ v).cell? ⟨r, o, none⟩ = some (cellD (w1.setCell ⟨r, j, none⟩ v) r o)) := by
  obtain ⟨h1, h2, h3, h4, h5⟩ := h
  refine ⟨fun b o hb => ?_, fun b o hb => (World.frozen?_setCell _ _ _ _).trans (h2 b o hb), fun k hk => by simpa [World.setCell] using h3 k hk, h4.setCell (Nat.le_refl _) _, fun o ho => ?_⟩
  · rw [cell_set, if_neg (by omega)]; exact h1 b o hb
  · refine cellD_of ?_
    rw [cell_set, h5 o ho]
    split <;> rfl
theorem sr_out {r : Nat} {w w0 w1 : World} (h : Below r w0 w1) (k : Since w w0) (hr : w.heap.size ≤ r) : Since w w1 := since_of (k.below.trans (h.mono hr))

/-- Block b's first n cells hold f, and none is frozen. -/
def Row (w : World) (b n : Nat) (f : Nat → Value) : Prop := (∀ j, j < n → w.cell? ⟨b, j, none⟩ = some (f j)) ∧ (∀ j, w.frozen? ⟨b, j, none⟩ = false) ∧ b < w.heap.size
section
variable {w w' : World} {b n : Nat} {f g : Nat → Value}
theorem Row.of_cells {cs : Array Value} {t : TypeId} (h : ∀ j, j < n → cs[j]? = some (f j)) : Row (w.alloc (.cells cs t)) w.heap.size n f := by
  refine ⟨fun j hj => ?_, fun j => ?_, by simp⟩
  · rw [World.cell?_alloc_new]; exact h j hj
  · rw [frozen?_alloc_cells]; simp [World.frozen?]
theorem Row.congr (h : Row w b n f) (e : ∀ j, j < n → f j = g j) : Row w b n g := ⟨fun j hj => by rw [h.1 j hj, e j hj], h.2⟩
theorem Row.drew (h : Row w b n f) : Row w.drew b n f := h
theorem Row.drewN (h : Row w b n f) (k : Nat) : Row (w.drewN k) b n f := h
theorem Row.alloc (h : Row w b n f) (o : Obj) : Row (w.alloc o) b n f :=
  ⟨fun j hj => (World.cell?_alloc_lt w o ⟨b, j, none⟩ h.2.2).trans (h.1 j hj), fun j => (World.frozen?_alloc_old w o ⟨b, j, none⟩ (Nat.ne_of_lt h.2.2)).trans (h.2.1 j), by have := h.2.2; simp; omega⟩
theorem Row.since (h : Row w b n f) (k : Since w w') : Row w' b n f := ⟨fun j hj => (k.1 b j h.2.2).trans (h.1 j hj), fun j => (k.2.1 b j h.2.2).trans (h.2.1 j), k.2.2.1 b h.2.2⟩
theorem Row.far (h : Row w b n f) {b' : Nat} (hb : b' ≠ b) (o : Nat) (v : Value) : Row (w.setCell ⟨b', o, none⟩ v) b n f :=
  ⟨fun j hj => by rw [cell_set, if_neg (fun e => hb e.1)]; exact h.1 j hj, fun j => (World.frozen?_setCell _ _ _ _).trans (h.2.1 j), by simpa [World.setCell] using h.2.2⟩
theorem Row.set (h : Row w b n f) (i : Nat) (v : Value) : Row (w.setCell ⟨b, i, none⟩ v) b n (fun j => if j = i then v else f j) := by
  refine ⟨fun j hj => ?_, fun j => (World.frozen?_setCell _ _ _ _).trans (h.2.1 j), by simpa [World.setCell] using h.2.2⟩
  rw [cell_set]
  by_cases e : j = i
  · subst e; rw [if_pos ⟨rfl, rfl⟩, h.1 j hj]; simp
  · rw [if_neg (fun x => e x.2.symm), h.1 j hj]; simp [e]
end

section
variable {H : Type} {enc : TypeId × Value → H} {P : Program}
/-- The law's last step where the call left all that was there as it was. -/
theorem post_since {f : Func} {s : ChangeSpec} {apart fresh handsOn again : Bool} {W W' : World} {args : Array Value} {v : Value} {ds gs : List (DataW H)} {before pa pv : List MemPlace}
    (hW : DataW.Whole enc P f.params.toList s.vars apart W args.toList ds gs before)
    (hres : ∀ (b : Nat) (sp : Nat → Bool) (hd : Bool), DataW.TrodAll enc P W' b sp hd f.resultTypes.toList (v.resultList f.resultTypes.size) (s.fn H (ds ++ gs)).results [])
    (hargs : ∀ sp : Nat → Bool, (∀ p ∈ before, sp p.block = true) → DataW.TrodAll enc P W' 0 sp true f.params.toList args.toList (s.fn H (ds ++ gs)).args pa)
    (hvars : ∀ sp : Nat → Bool, (∀ p ∈ before, sp p.block = true) → DataW.TrodVars enc P W' sp s.vars (s.fn H (ds ++ gs)).vars pv)
    (hps : before = pa ++ pv) (hb : Since W W')
    (hok : ∀ (j : Nat) (t : TypeId) (r : Value), f.resultTypes[j]? = some t → (v.resultList f.resultTypes.size)[j]? = some r → Value.okWide P W' .any 0 t r) :
    s.post enc P f apart fresh handsOn again W args v W' := by
  have B := hb.below
  have old : ∀ p ∈ before, p.block < W.heap.size := fun p hp => hW.lt p hp
  have kept : ∀ p ∈ before, (fun b => decide (b < W.heap.size)) p.block = true := fun p hp => by simpa using old p hp
  refine ⟨ds, gs, before, [], pa, pv, hW, hres _ _ _, hargs _ kept, hvars _ kept, World.keptBut_mono (fun p hp => ⟨hp, ?_⟩) (B.frame (· ∈ before)), fun _ => ?_⟩
  · rw [hps, List.mem_append] at hp
    exact Or.inr hp
  · obtain ⟨_, _, _, _, _, hz, hn⟩ := hW
    refine ⟨hok, _, _, ([] ++ pa) ++ pv, ⟨[] ++ pa, pv, trodAll_append (hargs _ (fun _ _ => rfl)) (hres _ _ _), hvars _ (fun _ _ => rfl), rfl, ?_, ?_⟩, ?_⟩
    · intro b off hp
      have inb : MemPlace.cell b off ∈ before := by rw [hps]; simpa using hp
      rw [B.frozen (old _ inb)]
      exact hz b off inb
    · intro ha
      have := hn ha
      rw [hps] at this
      simpa using this
    · intro p hp _
      rw [hps]
      simpa using hp
end
end Go.Proofs.Ytckochcocflleaa

/-
  The walks of layer 1 (wide): sums.
-/
namespace Go.Proofs.Ytckochcocflleaa
open Go.RowKit
set_option linter.unusedVariables false

theorem u64_bd (x : Int) : 0 ≤ IntKind.u64.wrap x ∧ IntKind.u64.wrap x < 18446744073709551616 := by rw [IntKind.wrap_u64]; omega
theorem w64_bd (x : Int) : -9223372036854775808 ≤ wrap64 x ∧ wrap64 x < 9223372036854775808 := by unfold wrap64; omega

theorem wide_add (a b : Int) (ha : In128 a) (hb : In128 b) (w : World) :
    Calls Try.prog 15 #[W a, W b] w fun e w' => e = .returned (W (w128 (a + b))) ∧ Since w w' := by
  obtain ⟨a0, a1⟩ := lo_bd a; obtain ⟨b0, b1⟩ := lo_bd b
  obtain ⟨c0, c1⟩ := u64_bd (hiW a); obtain ⟨d0, d1⟩ := u64_bd (hiW b)
  have k0 : 0 ≤ (loW a + loW b) / 18446744073709551616 := by omega
  have k1 : (loW a + loW b) / 18446744073709551616 ≤ 1 := by omega
  have E : Value.agg #[.int .i64 (wrap64 ((IntKind.u64.wrap (hiW a) + IntKind.u64.wrap (hiW b) + (loW a + loW b) / 18446744073709551616) % 18446744073709551616)), .int .u64 ((loW a + loW b) % 18446744073709551616)] = W (w128 (a + b)) := by
    refine W_mk (w64_bd _).1 (w64_bd _).2 (by omega) (by omega) ?_
    have := hi_lo a; have := hi_lo b
    rw [IntKind.wrap_u64, IntKind.wrap_u64]; unfold wrap64
    omega
  rw [← E]; clear E
  go_enter Try.func15, Try.ntmps15
  go_wp2_with (first | simp only [add64_0 (loW a) (loW b) a0 b0] | simp only [add64 (IntKind.u64.wrap (hiW a)) (IntKind.u64.wrap (hiW b)) ((loW a + loW b) / 18446744073709551616) c0 d0 k0 k1])
  refine bodyPost_ret (by simp [results, Try.results15, go_sem]) rfl ⟨rfl, ?_⟩
  (repeat (first | with_reducible (exact Since.refl _) | with_reducible assumption | with_reducible (refine Since.drew ?_) | with_reducible (refine Since.drewN ?_ _) | with_reducible (refine Since.alloc ?_ _) | (with_reducible (refine Since.setCell ?_ ?_ _); rotate_left; focus (first | (simp; done) | (simp; omega) | omega)) | (with_reducible (refine Since.trans ?_ (by with_reducible assumption)))))

theorem wide_sub (a b : Int) (ha : In128 a) (hb : In128 b) (w : World) :
    Calls Try.prog 16 #[W a, W b] w fun e w' => e = .returned (W (w128 (a - b))) ∧ Since w w' := by
  obtain ⟨a0, a1⟩ := lo_bd a; obtain ⟨b0, b1⟩ := lo_bd b
  obtain ⟨c0, c1⟩ := u64_bd (hiW a); obtain ⟨d0, d1⟩ := u64_bd (hiW b)
  obtain ⟨k0, k1⟩ := bor_bd (loW a) (loW b)
  have E : Value.agg #[.int .i64 (wrap64 ((IntKind.u64.wrap (hiW a) - IntKind.u64.wrap (hiW b) - bor (loW a) (loW b)) % 18446744073709551616)), .int .u64 ((loW a - loW b) % 18446744073709551616)] = W (w128 (a - b)) := by
    refine W_mk (w64_bd _).1 (w64_bd _).2 (by omega) (by omega) ?_
    have := hi_lo a; have := hi_lo b
    rw [IntKind.wrap_u64, IntKind.wrap_u64]; unfold wrap64 bor
    split <;> omega
  rw [← E]; clear E
  go_enter Try.func16, Try.ntmps16
  go_wp2_with (first | simp only [sub64_0 (loW a) (loW b) a0 b0 b1] | simp only [sub64 (IntKind.u64.wrap (hiW a)) (IntKind.u64.wrap (hiW b)) (bor (loW a) (loW b)) c0 d0 d1 k0 k1])
  refine bodyPost_ret (by simp [results, Try.results16, go_sem]) rfl ⟨rfl, ?_⟩
  (repeat (first | with_reducible (exact Since.refl _) | with_reducible assumption | with_reducible (refine Since.drew ?_) | with_reducible (refine Since.drewN ?_ _) | with_reducible (refine Since.alloc ?_ _) | (with_reducible (refine Since.setCell ?_ ?_ _); rotate_left; focus (first | (simp; done) | (simp; omega) | omega)) | (with_reducible (refine Since.trans ?_ (by with_reducible assumption)))))
end Go.Proofs.Ytckochcocflleaa

/-
  The walks of layer 1 (wide): small numbers, negation, products, order.
-/
namespace Go.Proofs.Ytckochcocflleaa
open Go.RowKit
set_option linter.unusedVariables false

theorem W_zero : Value.agg #[.int .i64 0, .int .u64 0] = W 0 := by unfold W hiW loW; rfl
theorem W_in64 {n : Int} (h : InW n) : W n = .agg #[.int .i64 (n / 9223372036854775808), .int .u64 (IntKind.u64.wrap n)] := by
  unfold InW at h
  have e1 : hiW n = n / 9223372036854775808 := by unfold hiW; omega
  have e2 : loW n = IntKind.u64.wrap n := by rw [IntKind.wrap_u64]; rfl
  unfold W; rw [e1, e2]

theorem wide_of (n : Int) (h : InW n) (w : World) :
    Calls Try.prog 52 #[.int .i64 n] w fun e w' => e = .returned (W n) ∧ Since w w' := by
  have h' := h
  unfold InW at h'
  rw [W_in64 h]
  go_enter Try.func52, Try.ntmps52
  go_wp2
  refine bodyPost_ret (by simp [results, Try.results52, go_sem]) rfl ⟨rfl, ?_⟩
  (repeat (first | with_reducible (exact Since.refl _) | with_reducible assumption | with_reducible (refine Since.drew ?_) | with_reducible (refine Since.drewN ?_ _) | with_reducible (refine Since.alloc ?_ _) | (with_reducible (refine Since.setCell ?_ ?_ _); rotate_left; focus (first | (simp; done) | (simp; omega) | omega)) | (with_reducible (refine Since.trans ?_ (by with_reducible assumption)))))

theorem wide_neg (a : Int) (ha : In128 a) (w : World) :
    Calls Try.prog 17 #[W a] w fun e w' => e = .returned (W (w128 (-a))) ∧ Since w w' := by
  have e0 : (0 : Int) - a = -a := by omega
  rw [← e0]; clear e0
  go_enter Try.func17, Try.ntmps17
  go_wp2_with (go_at_call 16; rw [W_zero]; refine (wide_sub 0 a (by unfold In128; omega) ha _).mono ?_; rintro e w1 ⟨rfl, hS1⟩; have hT := hS1; obtain ⟨hc, hf, hz, hb⟩ := hT)
  refine bodyPost_ret (by simp [results, Try.results17, go_sem, hc]) rfl ⟨rfl, ?_⟩
  (repeat (first | with_reducible (exact Since.refl _) | with_reducible assumption | with_reducible (refine Since.drew ?_) | with_reducible (refine Since.drewN ?_ _) | with_reducible (refine Since.alloc ?_ _) | (with_reducible (refine Since.setCell ?_ ?_ _); rotate_left; focus (first | (simp; done) | (simp; omega) | omega)) | (with_reducible (refine Since.trans ?_ (by with_reducible assumption)))))

theorem wide_small (a : Int) (ha : In128 a) (hs : InW a) (w : World) :
    Calls Try.prog 54 #[W a] w fun e w' => e = .returned (.tuple #[.int .i64 a, .bool true]) ∧ Since w w' := by
  have hv : wrap64 (loW a) = a := by unfold InW at hs; unfold wrap64 loW; omega
  go_enter Try.func54, Try.ntmps54
  go_wp2_with fail
  (refine wp_named fun wr1 hwr1 => ?_; go_region_held3 (fun w' => (∀ b o, b < wr1.heap.size → w'.cell? ⟨b, o, none⟩ = wr1.cell? ⟨b, o, none⟩) ∧ (∀ b o, b < wr1.heap.size → w'.frozen? ⟨b, o, none⟩ = wr1.frozen? ⟨b, o, none⟩) ∧ (∀ k, k < wr1.heap.size → k < w'.heap.size) ∧ Below wr1.heap.size wr1 w') ((subst hwr1; (repeat (with_reducible (refine since_put ?_ ?_ _); rotate_left; focus (first | (simp; done) | (simp; omega) | omega))); first | assumption | (refine since_step (by assumption) ?_; first | assumption | ((repeat (first | with_reducible (exact Since.refl _) | with_reducible assumption | with_reducible (refine Since.drew ?_) | with_reducible (refine Since.drewN ?_ _) | with_reducible (refine Since.alloc ?_ _) | (with_reducible (refine Since.setCell ?_ ?_ _); rotate_left; focus (first | (simp; done) | (simp; omega) | omega)))); done)) | (refine since_step (Since.refl _) ?_; first | assumption | ((repeat (first | with_reducible (exact Since.refl _) | with_reducible assumption | with_reducible (refine Since.drew ?_) | with_reducible (refine Since.drewN ?_ _) | with_reducible (refine Since.alloc ?_ _) | (with_reducible (refine Since.setCell ?_ ?_ _); rotate_left; focus (first | (simp; done) | (simp; omega) | omega)) | (with_reducible (refine Since.trans ?_ (by with_reducible assumption))))); done)))) ((go_at_call 52; refine (wide_of a hs _).mono ?_; rintro e w1 ⟨rfl, hS⟩; have hZ := hS.below.size; (try simp at hZ))); all_goals (rename_i hHeld; have hR1 : Since wr1 _ := hHeld; obtain ⟨hcR1, hfR1, hzR1, hbR1⟩ := hHeld; subst hwr1))
  go_wp2
  go_ret2
  exact ⟨rfl, by (repeat (first | with_reducible (exact Since.refl _) | with_reducible assumption | with_reducible (refine Since.drew ?_) | with_reducible (refine Since.drewN ?_ _) | with_reducible (refine Since.alloc ?_ _) | (with_reducible (refine Since.setCell ?_ ?_ _); rotate_left; focus (first | (simp; done) | (simp; omega) | omega)) | (with_reducible (refine Since.trans ?_ (by with_reducible assumption)))))⟩

/-- The low word as a small number. -/
def smallOf (a : Int) : Int := wrap64 (loW a)
theorem smallOf_in (a : Int) : InW (smallOf a) := by unfold smallOf wrap64 InW; omega
theorem smallOf_ne {a : Int} (hs : ¬ InW a) : (hiW (smallOf a) == hiW a) = false ∨ (loW (smallOf a) == loW a) = false := by
  by_cases h1 : hiW (smallOf a) = hiW a
  · by_cases h2 : loW (smallOf a) = loW a
    · exact absurd ((eq_iff _ _).2 ⟨h1, h2⟩ ▸ smallOf_in a) hs
    · exact .inr (by simpa using h2)
  · exact .inl (by simpa using h1)
theorem smallOf_lo (a : Int) : loW (smallOf a) = loW a := by unfold smallOf wrap64 loW; omega
theorem smallOf_hi {a : Int} (hs : ¬ InW a) : (hiW (smallOf a) == hiW a) = false := by
  rcases smallOf_ne hs with h | h
  · exact h
  · rw [smallOf_lo] at h; simp at h

theorem wide_big (a : Int) (ha : In128 a) (hs : ¬ InW a) (w : World) :
    Calls Try.prog 54 #[W a] w fun e w' => e = .returned (.tuple #[.int .i64 0, .bool false]) ∧ Since w w' := by
  have hv : wrap64 (loW a) = smallOf a := rfl
  have h1 := smallOf_hi hs
  clear hs
  have h2 := smallOf_in a
  have h3 := smallOf_lo a
  go_enter Try.func54, Try.ntmps54
  go_wp2_with fail
  (refine wp_named fun wr1 hwr1 => ?_; go_region_held3 (fun w' => (∀ b o, b < wr1.heap.size → w'.cell? ⟨b, o, none⟩ = wr1.cell? ⟨b, o, none⟩) ∧ (∀ b o, b < wr1.heap.size → w'.frozen? ⟨b, o, none⟩ = wr1.frozen? ⟨b, o, none⟩) ∧ (∀ k, k < wr1.heap.size → k < w'.heap.size) ∧ Below wr1.heap.size wr1 w') ((subst hwr1; (repeat (with_reducible (refine since_put ?_ ?_ _); rotate_left; focus (first | (simp; done) | (simp; omega) | omega))); first | assumption | (refine since_step (by assumption) ?_; first | assumption | ((repeat (first | with_reducible (exact Since.refl _) | with_reducible assumption | with_reducible (refine Since.drew ?_) | with_reducible (refine Since.drewN ?_ _) | with_reducible (refine Since.alloc ?_ _) | (with_reducible (refine Since.setCell ?_ ?_ _); rotate_left; focus (first | (simp; done) | (simp; omega) | omega)))); done)) | (refine since_step (Since.refl _) ?_; first | assumption | ((repeat (first | with_reducible (exact Since.refl _) | with_reducible assumption | with_reducible (refine Since.drew ?_) | with_reducible (refine Since.drewN ?_ _) | with_reducible (refine Since.alloc ?_ _) | (with_reducible (refine Since.setCell ?_ ?_ _); rotate_left; focus (first | (simp; done) | (simp; omega) | omega)) | (with_reducible (refine Since.trans ?_ (by with_reducible assumption))))); done)))) ((go_at_call 52; refine (wide_of (smallOf a) h2 _).mono ?_; rintro e w1 ⟨rfl, hS⟩; have hZ := hS.below.size; (try simp at hZ))); all_goals (rename_i hHeld; have hR1 : Since wr1 _ := hHeld; obtain ⟨hcR1, hfR1, hzR1, hbR1⟩ := hHeld; subst hwr1))
  go_wp2
  go_ret2
  exact ⟨rfl, by (repeat (first | with_reducible (exact Since.refl _) | with_reducible assumption | with_reducible (refine Since.drew ?_) | with_reducible (refine Since.drewN ?_ _) | with_reducible (refine Since.alloc ?_ _) | (with_reducible (refine Since.setCell ?_ ?_ _); rotate_left; focus (first | (simp; done) | (simp; omega) | omega)) | (with_reducible (refine Since.trans ?_ (by with_reducible assumption)))))⟩

/-- Which is greater: -1, 0 or 1. -/
def cmpI (a b : Int) : Int := if a < b then -1 else if b < a then 1 else 0

theorem cmpI_hi {a b : Int} (h : hiW a ≠ hiW b) : cmpI (hiW a) (hiW b) = cmpI a b := by
  have := hi_lo a; have := hi_lo b; have := lo_bd a; have := lo_bd b
  unfold cmpI; split <;> split <;> (try split) <;> omega
theorem cmpI_lo {a b : Int} (h : hiW a = hiW b) : cmpI (loW a) (loW b) = cmpI a b := by
  have := hi_lo a; have := hi_lo b; have := lo_bd a; have := lo_bd b
  unfold cmpI; split <;> split <;> (try split) <;> omega

def signI (a : Int) : Int := cmpI a 0
end Go.Proofs.Ytckochcocflleaa

/-
  Layer 16: which pixels a line goes through, in numbers: the program's way and the document's.
-/
namespace Go.Proofs.Ytckochcocflleaa
set_option linter.unusedVariables false

/-- A part of a line's way between two shares. -/
structure Stc where
  (ln ld hn hd : Int)
  (lo ho : Bool)
def cmpF (n d m e : Int) : Int := cmpI (n * e) (m * d)
def aftS (s : Stc) (n d : Int) (o : Bool) : Stc := if cmpF n d s.ln s.ld = 1 then ⟨n, d, s.hn, s.hd, o, s.ho⟩ else if cmpF n d s.ln s.ld = 0 then ⟨s.ln, s.ld, s.hn, s.hd, s.lo || o, s.ho⟩ else s
def befS (s : Stc) (n d : Int) (o : Bool) : Stc := if cmpF n d s.hn s.hd = -1 then ⟨s.ln, s.ld, n, d, s.lo, o⟩ else if cmpF n d s.hn s.hd = 0 then ⟨s.ln, s.ld, s.hn, s.hd, s.lo, s.ho || o⟩ else s
def cutS (s : Stc) (a b row : Int) : Stc :=
  if a < b then befS (aftS s (64 * row - 32 - a) (b - a) false) (64 * row + 32 - a) (b - a) true
  else if b < a then befS (aftS s (a - (64 * row + 32)) (a - b) true) (a - (64 * row - 32)) (a - b) false
  else if a < 64 * row - 32 ∨ 64 * row + 32 ≤ a then ⟨s.ln, s.ld, -1, 1, s.lo, s.ho⟩ else s
def empS (s : Stc) : Bool := decide (0 < cmpF s.ln s.ld s.hn s.hd) || (decide (cmpF s.ln s.ld s.hn s.hd = 0) && (s.lo || s.ho))
/-- A share p of q lies behind n of d, or is it. -/
def behS (n d : Int) (o : Bool) (p q : Int) : Prop := if o then n * q < p * d else n * q ≤ p * d
def aheS (n d : Int) (o : Bool) (p q : Int) : Prop := if o then p * d < n * q else p * d ≤ n * q
def InS (s : Stc) (p q : Int) : Prop := behS s.ln s.ld s.lo p q ∧ aheS s.hn s.hd s.ho p q
def WfS (s : Stc) : Prop := 0 < s.ld ∧ 0 < s.hd
theorem cmp_is (a b : Int) : (cmpI a b = -1 ∧ a < b) ∨ (cmpI a b = 0 ∧ a = b) ∨ (cmpI a b = 1 ∧ b < a) := by
  unfold cmpI
  split
  · exact .inl ⟨rfl, by assumption⟩
  · split
    · exact .inr (.inr ⟨rfl, by assumption⟩)
    · exact .inr (.inl ⟨rfl, by omega⟩)
/-- n of d is less than m of e: what lies behind the latter lies behind the former. -/
theorem fr_lt {n d m e p q : Int} (hd : 0 < d) (he : 0 < e) (hq : 0 < q) (h : n * e < m * d) (k : m * q ≤ p * e) : n * q < p * d := by
  have h1 : n * e * q < m * d * q := Int.mul_lt_mul_of_pos_right h hq
  have h2 : m * q * d ≤ p * e * d := Int.mul_le_mul_of_nonneg_right k (by omega)
  have h3 : n * q * e < p * d * e := by grind
  exact Int.lt_of_mul_lt_mul_right h3 (by omega)
theorem fr_gt {n d m e p q : Int} (hd : 0 < d) (he : 0 < e) (hq : 0 < q) (h : m * d < n * e) (k : p * e ≤ m * q) : p * d < n * q := by
  have h1 : m * d * q < n * e * q := Int.mul_lt_mul_of_pos_right h hq
  have h2 : p * e * d ≤ m * q * d := Int.mul_le_mul_of_nonneg_right k (by omega)
  have h3 : p * d * e < n * q * e := by grind
  exact Int.lt_of_mul_lt_mul_right h3 (by omega)
theorem fr_eq {n d m e p q : Int} (hd : 0 < d) (he : 0 < e) (h : n * e = m * d) : (n * q < p * d ↔ m * q < p * e) ∧ (n * q ≤ p * d ↔ m * q ≤ p * e) ∧ (p * d < n * q ↔ p * e < m * q) ∧ (p * d ≤ n * q ↔ p * e ≤ m * q) := by
  have e1 : n * q * e = m * q * d := by grind
  have e2 : p * d * e = p * e * d := by grind
  refine ⟨⟨fun k => ?_, fun k => ?_⟩, ⟨fun k => ?_, fun k => ?_⟩, ⟨fun k => ?_, fun k => ?_⟩, ⟨fun k => ?_, fun k => ?_⟩⟩
  · have := Int.mul_lt_mul_of_pos_right k he
    exact Int.lt_of_mul_lt_mul_right (a := d) (by omega) (by omega)
  · have := Int.mul_lt_mul_of_pos_right k hd
    exact Int.lt_of_mul_lt_mul_right (a := e) (by omega) (by omega)
  · have := Int.mul_le_mul_of_nonneg_right k (show 0 ≤ e by omega)
    exact Int.le_of_mul_le_mul_right (a := d) (by omega) (by omega)
  · have := Int.mul_le_mul_of_nonneg_right k (show 0 ≤ d by omega)
    exact Int.le_of_mul_le_mul_right (a := e) (by omega) (by omega)
  · have := Int.mul_lt_mul_of_pos_right k he
    exact Int.lt_of_mul_lt_mul_right (a := d) (by omega) (by omega)
  · have := Int.mul_lt_mul_of_pos_right k hd
    exact Int.lt_of_mul_lt_mul_right (a := e) (by omega) (by omega)
  · have := Int.mul_le_mul_of_nonneg_right k (show 0 ≤ e by omega)
    exact Int.le_of_mul_le_mul_right (a := d) (by omega) (by omega)
  · have := Int.mul_le_mul_of_nonneg_right k (show 0 ≤ d by omega)
    exact Int.le_of_mul_le_mul_right (a := e) (by omega) (by omega)
theorem aft_wf {s : Stc} (h : WfS s) {n d : Int} {o : Bool} (hd : 0 < d) : WfS (aftS s n d o) := by
  unfold aftS WfS at *
  split
  · exact ⟨hd, h.2⟩
  · split
    · exact h
    · exact h
theorem bef_wf {s : Stc} (h : WfS s) {n d : Int} {o : Bool} (hd : 0 < d) : WfS (befS s n d o) := by
  unfold befS WfS at *
  split
  · exact ⟨h.1, hd⟩
  · split
    · exact h
    · exact h
theorem beh_weak {n d : Int} {o : Bool} {p q : Int} (h : behS n d o p q) : n * q ≤ p * d := by
  unfold behS at h; split at h <;> omega
theorem ahe_weak {n d : Int} {o : Bool} {p q : Int} (h : aheS n d o p q) : p * d ≤ n * q := by
  unfold aheS at h; split at h <;> omega
theorem aft_in {s : Stc} (h : WfS s) {n d : Int} {o : Bool} (hd : 0 < d) {p q : Int} (hq : 0 < q) : InS (aftS s n d o) p q ↔ InS s p q ∧ behS n d o p q := by
  obtain ⟨h1, h2⟩ := h
  unfold aftS cmpF
  rcases cmp_is (n * s.ld) (s.ln * d) with ⟨e, k⟩ | ⟨e, k⟩ | ⟨e, k⟩
  · rw [e, if_neg (by decide), if_neg (by decide)]
    refine ⟨fun hi => ⟨hi, ?_⟩, fun hi => hi.1⟩
    have := fr_lt (p := p) hd h1 hq k (beh_weak hi.1)
    unfold behS; split <;> omega
  · rw [e, if_neg (by decide), if_pos rfl]
    obtain ⟨f1, f2, _, _⟩ := fr_eq (p := p) (q := q) hd h1 k
    unfold InS behS
    simp only
    cases s.lo <;> cases o <;> simp only [Bool.or_false, Bool.or_true, Bool.false_eq_true, if_true, if_false] <;> constructor <;> intro hh <;> (refine ⟨?_, ?_⟩) <;> (try refine ⟨?_, ?_⟩) <;> (first | exact hh.1 | exact hh.2 | exact hh.1.1 | exact hh.1.2 | (have := hh.1; omega) | (have := hh.2; have := hh.1.1; omega))
  · rw [e, if_pos rfl]
    unfold InS
    simp only
    refine ⟨fun hi => ⟨⟨?_, hi.2⟩, hi.1⟩, fun hi => ⟨hi.2, hi.1.2⟩⟩
    have := fr_lt (p := p) h1 hd hq k (beh_weak hi.1)
    unfold behS; split <;> omega
theorem bef_in {s : Stc} (h : WfS s) {n d : Int} {o : Bool} (hd : 0 < d) {p q : Int} (hq : 0 < q) : InS (befS s n d o) p q ↔ InS s p q ∧ aheS n d o p q := by
  obtain ⟨h1, h2⟩ := h
  unfold befS cmpF
  rcases cmp_is (n * s.hd) (s.hn * d) with ⟨e, k⟩ | ⟨e, k⟩ | ⟨e, k⟩
  · rw [e, if_pos rfl]
    unfold InS
    simp only
    refine ⟨fun hi => ⟨⟨hi.1, ?_⟩, hi.2⟩, fun hi => ⟨hi.1.1, hi.2⟩⟩
    have := fr_gt (p := p) h2 hd hq k (ahe_weak hi.2)
    unfold aheS; split <;> omega
  · rw [e, if_neg (by decide), if_pos rfl]
    obtain ⟨_, _, f1, f2⟩ := fr_eq (p := p) (q := q) hd h2 k
    unfold InS aheS
    simp only
    cases s.ho <;> cases o <;> simp only [Bool.or_false, Bool.or_true, Bool.false_eq_true, if_true, if_false] <;> constructor <;> intro hh <;> (refine ⟨?_, ?_⟩) <;> (try refine ⟨?_, ?_⟩) <;> (first | exact hh.1 | exact hh.2 | exact hh.1.1 | exact hh.1.2 | (have := hh.2; omega) | (have := hh.2; have := hh.1.2; omega))
  · rw [e, if_neg (by decide), if_neg (by decide)]
    refine ⟨fun hi => ⟨hi, ?_⟩, fun hi => hi.1⟩
    have := fr_gt (p := p) hd h2 hq k (ahe_weak hi.2)
    unfold aheS; split <;> omega
/-- A coordinate at a share of the way is in a row of pixels. -/
def rowS (a b row p q : Int) : Prop := (64 * row - 32) * q ≤ a * q + p * (b - a) ∧ a * q + p * (b - a) < (64 * row + 32) * q
theorem cut_wf {s : Stc} (h : WfS s) (a b row : Int) : WfS (cutS s a b row) := by
  unfold cutS
  split
  · exact bef_wf (aft_wf h (by omega)) (by omega)
  · split
    · exact bef_wf (aft_wf h (by omega)) (by omega)
    · split
      · exact ⟨h.1, by simp⟩
      · exact h
theorem cut_in {s : Stc} (h : WfS s) (a b row : Int) {p q : Int} (hq : 0 < q) (hp : 0 ≤ p) : InS (cutS s a b row) p q ↔ InS s p q ∧ rowS a b row p q := by
  unfold cutS
  split
  · rename_i hab
    rw [bef_in (aft_wf h (by omega)) (by omega) hq, aft_in h (by omega) hq]
    have e1 : behS (64 * row - 32 - a) (b - a) false p q ↔ (64 * row - 32) * q ≤ a * q + p * (b - a) := by
      unfold behS; simp only [Bool.false_eq_true, if_false]
      have e : (64 * row - 32 - a) * q = (64 * row - 32) * q - a * q := by grind
      omega
    have e2 : aheS (64 * row + 32 - a) (b - a) true p q ↔ a * q + p * (b - a) < (64 * row + 32) * q := by
      unfold aheS; simp only [if_true]
      have e : (64 * row + 32 - a) * q = (64 * row + 32) * q - a * q := by grind
      omega
    rw [e1, e2]
    unfold rowS
    simp only [and_assoc]
  · split
    · rename_i _ hab
      rw [bef_in (aft_wf h (by omega)) (by omega) hq, aft_in h (by omega) hq]
      have e1 : behS (a - (64 * row + 32)) (a - b) true p q ↔ a * q + p * (b - a) < (64 * row + 32) * q := by
        unfold behS; simp only [if_true]
        have e : (a - (64 * row + 32)) * q = a * q - (64 * row + 32) * q := by grind
        have e' : p * (a - b) = -(p * (b - a)) := by grind
        omega
      have e2 : aheS (a - (64 * row - 32)) (a - b) false p q ↔ (64 * row - 32) * q ≤ a * q + p * (b - a) := by
        unfold aheS; simp only [Bool.false_eq_true, if_false]
        have e : (a - (64 * row - 32)) * q = a * q - (64 * row - 32) * q := by grind
        have e' : p * (a - b) = -(p * (b - a)) := by grind
        omega
      rw [e1, e2]
      unfold rowS
      simp only [and_assoc]
      constructor
      · intro hh; exact ⟨hh.1, hh.2.2, hh.2.1⟩
      · intro hh; exact ⟨hh.1, hh.2.2, hh.2.1⟩
    · obtain rfl : a = b := by omega
      have e0 : p * (a - a) = 0 := by rw [Int.sub_self, Int.mul_zero]
      unfold rowS
      rw [e0]
      split
      · rename_i hh
        constructor
        · intro hi
          exfalso
          have := ahe_weak hi.2
          simp only at this
          omega
        · intro ⟨_, h1, h2⟩
          exfalso
          rcases hh with hh | hh
          · have : a * q < (64 * row - 32) * q := Int.mul_lt_mul_of_pos_right hh hq
            omega
          · have : (64 * row + 32) * q ≤ a * q := Int.mul_le_mul_of_nonneg_right hh (by omega)
            omega
      · rename_i hh
        constructor
        · intro hi
          have h1 : (64 * row - 32) * q ≤ a * q := Int.mul_le_mul_of_nonneg_right (by omega) (by omega)
          have h2 : a * q < (64 * row + 32) * q := Int.mul_lt_mul_of_pos_right (by omega) hq
          exact ⟨hi, by omega, by omega⟩
        · exact fun hi => hi.1
theorem emp_no {s : Stc} (h : WfS s) : empS s = false ↔ ∃ p q, 0 < q ∧ InS s p q := by
  obtain ⟨h1, h2⟩ := h
  unfold empS cmpF
  rcases cmp_is (s.ln * s.hd) (s.hn * s.ld) with ⟨e, k⟩ | ⟨e, k⟩ | ⟨e, k⟩
  · rw [e]
    refine ⟨fun _ => ⟨s.ln * s.hd + s.hn * s.ld, 2 * (s.ld * s.hd), by have := Int.mul_pos h1 h2; omega, ?_, ?_⟩, fun _ => by simp⟩
    · have e1 : s.ln * (2 * (s.ld * s.hd)) = s.ln * s.hd * s.ld + s.ln * s.hd * s.ld := by grind
      have e2 : (s.ln * s.hd + s.hn * s.ld) * s.ld = s.ln * s.hd * s.ld + s.hn * s.ld * s.ld := by grind
      have e3 : s.ln * s.hd * s.ld < s.hn * s.ld * s.ld := Int.mul_lt_mul_of_pos_right k h1
      unfold behS; split <;> omega
    · have e1 : s.hn * (2 * (s.ld * s.hd)) = s.hn * s.ld * s.hd + s.hn * s.ld * s.hd := by grind
      have e2 : (s.ln * s.hd + s.hn * s.ld) * s.hd = s.ln * s.hd * s.hd + s.hn * s.ld * s.hd := by grind
      have e3 : s.ln * s.hd * s.hd < s.hn * s.ld * s.hd := Int.mul_lt_mul_of_pos_right k h2
      unfold aheS; split <;> omega
  · rw [e]
    simp only [Int.lt_irrefl, decide_false, decide_true, Bool.false_or, Bool.true_and, Bool.or_eq_false_iff]
    constructor
    · intro ⟨ha, hb⟩
      refine ⟨s.ln, s.ld, h1, ?_, ?_⟩
      · unfold behS; rw [ha]; simp
      · unfold aheS; rw [hb]; simp only [Bool.false_eq_true, if_false]; omega
    · intro ⟨p, q, hq, ha, hb⟩
      obtain ⟨f1, f2, f3, f4⟩ := fr_eq (p := p) (q := q) h1 h2 k
      have wa := beh_weak ha
      have wb := ahe_weak hb
      constructor
      · cases hl : s.lo
        · rfl
        · unfold behS at ha; rw [hl] at ha; simp only [if_true] at ha; omega
      · cases hl : s.ho
        · rfl
        · unfold aheS at hb; rw [hl] at hb; simp only [if_true] at hb; omega
  · rw [e]
    constructor
    · intro hh; simp at hh
    · intro ⟨p, q, hq, ha, hb⟩
      have := fr_lt (p := p) h2 h1 hq k (beh_weak ha)
      have := ahe_weak hb
      omega
def st0 : Stc := ⟨0, 1, 1, 1, false, false⟩
theorem st0_in {p q : Int} : InS st0 p q ↔ 0 ≤ p ∧ p ≤ q := by
  unfold InS behS aheS st0
  simp
/-- A line goes through a pixel. -/
def HitG (ax ay bx bz x y : Int) : Prop := ∃ p q, 0 < q ∧ 0 ≤ p ∧ p ≤ q ∧ rowS ax bx x p q ∧ rowS ay bz y p q
def hitS (ax ay bx bz x y : Int) : Bool := !empS (cutS (cutS st0 ax bx x) ay bz y)
theorem aft_lo {s : Stc} (h : WfS s) (h0 : 0 ≤ s.ln) {n d : Int} {o : Bool} (hd : 0 < d) : 0 ≤ (aftS s n d o).ln := by
  unfold aftS cmpF
  rcases cmp_is (n * s.ld) (s.ln * d) with ⟨e, k⟩ | ⟨e, k⟩ | ⟨e, k⟩
  · rw [e, if_neg (by decide), if_neg (by decide)]; exact h0
  · rw [e, if_neg (by decide), if_pos rfl]; exact h0
  · rw [e, if_pos rfl]
    have h1 := Int.mul_nonneg h0 (show 0 ≤ d by omega)
    rcases Int.lt_or_le n 0 with hn | hn
    · have := Int.mul_neg_of_neg_of_pos hn h.1
      omega
    · exact hn
theorem bef_lo {s : Stc} (h0 : 0 ≤ s.ln) {n d : Int} {o : Bool} : 0 ≤ (befS s n d o).ln := by
  unfold befS
  split
  · exact h0
  · split
    · exact h0
    · exact h0
theorem cut_lo {s : Stc} (h : WfS s) (h0 : 0 ≤ s.ln) (a b row : Int) : 0 ≤ (cutS s a b row).ln := by
  unfold cutS
  split
  · exact bef_lo (aft_lo h h0 (by omega))
  · split
    · exact bef_lo (aft_lo h h0 (by omega))
    · split
      · exact h0
      · exact h0
theorem in_pos {s : Stc} (h : WfS s) (h0 : 0 ≤ s.ln) {p q : Int} (hq : 0 < q) (hi : InS s p q) : 0 ≤ p := by
  have h1 := beh_weak hi.1
  have h2 := Int.mul_nonneg h0 (show 0 ≤ q by omega)
  rcases Int.lt_or_le p 0 with hn | hn
  · have := Int.mul_neg_of_neg_of_pos hn h.1
    omega
  · exact hn
theorem hit_iff (ax ay bx bz x y : Int) : hitS ax ay bx bz x y = true ↔ HitG ax ay bx bz x y := by
  have w0 : WfS st0 := by unfold WfS st0; simp
  have w1 := cut_wf w0 ax bx x
  have w2 := cut_wf w1 ay bz y
  have l1 := cut_lo w0 (show (0 : Int) ≤ st0.ln by unfold st0; simp) ax bx x
  have l2 := cut_lo w1 l1 ay bz y
  unfold hitS HitG
  rw [Bool.not_eq_true', emp_no w2]
  constructor
  · intro ⟨p, q, hq, hi⟩
    have hp := in_pos w2 l2 hq hi
    rw [cut_in w1 ay bz y hq hp, cut_in w0 ax bx x hq hp, st0_in] at hi
    exact ⟨p, q, hq, hp, hi.1.1.2, hi.1.2, hi.2⟩
  · intro ⟨p, q, hq, hp, hpq, h1, h2⟩
    refine ⟨p, q, hq, ?_⟩
    rw [cut_in w1 ay bz y hq hp, cut_in w0 ax bx x hq hp, st0_in]
    exact ⟨⟨⟨hp, hpq⟩, h1⟩, h2⟩
theorem row_rev {a b row p q : Int} : rowS b a row (q - p) q ↔ rowS a b row p q := by
  unfold rowS
  have e : b * q + (q - p) * (a - b) = a * q + p * (b - a) := by grind
  rw [e]
theorem hit_rev (ax ay bx bz x y : Int) : HitG bx bz ax ay x y ↔ HitG ax ay bx bz x y := by
  unfold HitG
  constructor
  · intro ⟨p, q, hq, hp, hpq, h1, h2⟩
    exact ⟨q - p, q, hq, by omega, by omega, row_rev.2 h1, row_rev.2 h2⟩
  · intro ⟨p, q, hq, hp, hpq, h1, h2⟩
    exact ⟨q - p, q, hq, by omega, by omega, row_rev.2 h1, row_rev.2 h2⟩
theorem row_mv {a b row p q d : Int} : rowS (a + 64 * d) (b + 64 * d) (row + d) p q ↔ rowS a b row p q := by
  unfold rowS
  have e : (a + 64 * d) * q + p * (b + 64 * d - (a + 64 * d)) = a * q + p * (b - a) + 64 * d * q := by grind
  have e1 : (64 * (row + d) - 32) * q = (64 * row - 32) * q + 64 * d * q := by grind
  have e2 : (64 * (row + d) + 32) * q = (64 * row + 32) * q + 64 * d * q := by grind
  rw [e, e1, e2]
  omega
theorem hit_mv (ax ay bx bz x y d e : Int) : HitG (ax + 64 * d) (ay + 64 * e) (bx + 64 * d) (bz + 64 * e) (x + d) (y + e) ↔ HitG ax ay bx bz x y := by
  unfold HitG
  constructor
  · intro ⟨p, q, hq, hp, hpq, h1, h2⟩
    exact ⟨p, q, hq, hp, hpq, row_mv.1 h1, row_mv.1 h2⟩
  · intro ⟨p, q, hq, hp, hpq, h1, h2⟩
    exact ⟨p, q, hq, hp, hpq, row_mv.2 h1, row_mv.2 h2⟩
/-- The pixel of a point. -/
def pxI (x : Int) : Int := (x + 32) / 64
/-- A point at a share of the way lies in its own pixel. -/
theorem row_at {a b p q v : Int} (hq : 0 < q) (hv : v * q = a * q + p * (b - a)) : rowS a b (pxI v) p q := by
  unfold rowS pxI
  rw [← hv]
  constructor
  · exact Int.mul_le_mul_of_nonneg_right (by omega) (by omega)
  · exact Int.mul_lt_mul_of_pos_right (by omega) hq
/-- A share with its own bound; the document's. -/
theorem hit_at {ax ay bx bz p q u v : Int} (hq : 0 < q) (hp : 0 ≤ p) (hpq : p ≤ q) (hu : u * q = ax * q + p * (bx - ax)) (hv : v * q = ay * q + p * (bz - ay)) : HitG ax ay bx bz (pxI u) (pxI v) :=
  ⟨p, q, hq, hp, hpq, row_at hq hu, row_at hq hv⟩
/-- The document's way to say it. -/
structure Shr where
  (n d : Int)
  (o : Bool)
def abvS (a b : Shr) : Int := cmpI (a.n * b.d) (b.n * a.d)
def latS (a b : Shr) : Shr := if 0 < abvS a b ∨ (abvS a b = 0 ∧ a.o = true) then a else b
def sooS (a b : Shr) : Shr := if abvS a b < 0 ∨ (abvS a b = 0 ∧ a.o = true) then a else b
def InR (f t : Shr) (p q : Int) : Prop := behS f.n f.d f.o p q ∧ aheS t.n t.d t.o p q
theorem lat_in {a b : Shr} (ha : 0 < a.d) (hb : 0 < b.d) {p q : Int} (hq : 0 < q) : behS (latS a b).n (latS a b).d (latS a b).o p q ↔ behS a.n a.d a.o p q ∧ behS b.n b.d b.o p q := by
  unfold latS abvS
  rcases cmp_is (a.n * b.d) (b.n * a.d) with ⟨e, k⟩ | ⟨e, k⟩ | ⟨e, k⟩
  · rw [e, if_neg (by omega)]
    refine ⟨fun hi => ⟨?_, hi⟩, fun hi => hi.2⟩
    have := fr_lt (p := p) ha hb hq k (beh_weak hi)
    unfold behS; split <;> omega
  · obtain ⟨f1, f2, _, _⟩ := fr_eq (p := p) (q := q) ha hb k
    cases ho : a.o
    · rw [e, if_neg (by simp)]
      refine ⟨fun hi => ⟨?_, hi⟩, fun hi => hi.2⟩
      have := beh_weak hi
      unfold behS; simp only [Bool.false_eq_true, if_false]; omega
    · rw [e, if_pos (by simp), ho]
      refine ⟨fun hi => ⟨hi, ?_⟩, fun hi => hi.1⟩
      unfold behS at hi; simp only [if_true] at hi
      unfold behS; split <;> omega
  · rw [e, if_pos (by omega)]
    refine ⟨fun hi => ⟨hi, ?_⟩, fun hi => hi.1⟩
    have := fr_lt (p := p) hb ha hq k (beh_weak hi)
    unfold behS; split <;> omega
theorem soo_in {a b : Shr} (ha : 0 < a.d) (hb : 0 < b.d) {p q : Int} (hq : 0 < q) : aheS (sooS a b).n (sooS a b).d (sooS a b).o p q ↔ aheS a.n a.d a.o p q ∧ aheS b.n b.d b.o p q := by
  unfold sooS abvS
  rcases cmp_is (a.n * b.d) (b.n * a.d) with ⟨e, k⟩ | ⟨e, k⟩ | ⟨e, k⟩
  · rw [e, if_pos (by omega)]
    refine ⟨fun hi => ⟨hi, ?_⟩, fun hi => hi.1⟩
    have := fr_gt (p := p) hb ha hq k (ahe_weak hi)
    unfold aheS; split <;> omega
  · obtain ⟨_, _, f1, f2⟩ := fr_eq (p := p) (q := q) ha hb k
    cases ho : a.o
    · rw [e, if_neg (by simp)]
      refine ⟨fun hi => ⟨?_, hi⟩, fun hi => hi.2⟩
      have := ahe_weak hi
      unfold aheS; simp only [Bool.false_eq_true, if_false]; omega
    · rw [e, if_pos (by simp), ho]
      refine ⟨fun hi => ⟨hi, ?_⟩, fun hi => hi.1⟩
      unfold aheS at hi; simp only [if_true] at hi
      unfold aheS; split <;> omega
  · rw [e, if_neg (by omega)]
    refine ⟨fun hi => ⟨?_, hi⟩, fun hi => hi.2⟩
    have := fr_gt (p := p) ha hb hq k (ahe_weak hi)
    unfold aheS; split <;> omega
theorem lat_d {a b : Shr} (ha : 0 < a.d) (hb : 0 < b.d) : 0 < (latS a b).d := by unfold latS; split <;> assumption
theorem soo_d {a b : Shr} (ha : 0 < a.d) (hb : 0 < b.d) : 0 < (sooS a b).d := by unfold sooS; split <;> assumption
/-- clip: the two bounds, and whether there is a way at all. -/
def clpF (at' d lo hi : Int) (f : Shr) : Shr := if d = 0 then f else if 0 < d then latS f ⟨lo - at', d, false⟩ else latS f ⟨at' - hi, -d, true⟩
def clpT (at' d lo hi : Int) (t : Shr) : Shr := if d = 0 then t else if 0 < d then sooS t ⟨hi - at', d, true⟩ else sooS t ⟨at' - lo, -d, false⟩
def clpB (at' d lo hi : Int) : Bool := if d = 0 then decide (lo ≤ at' ∧ at' < hi) else true
theorem clp_d {at' d lo hi : Int} {f t : Shr} (hf : 0 < f.d) (ht : 0 < t.d) : 0 < (clpF at' d lo hi f).d ∧ 0 < (clpT at' d lo hi t).d := by
  unfold clpF clpT
  split
  · exact ⟨hf, ht⟩
  · split
    · exact ⟨lat_d hf (by simp only; omega), soo_d ht (by simp only; omega)⟩
    · exact ⟨lat_d hf (by simp only; omega), soo_d ht (by simp only; omega)⟩
theorem clp_in {a b row : Int} {f t : Shr} (hf : 0 < f.d) (ht : 0 < t.d) {p q : Int} (hq : 0 < q) :
    (clpB a (b - a) (64 * row - 32) (64 * row + 32) = true ∧ InR (clpF a (b - a) (64 * row - 32) (64 * row + 32) f) (clpT a (b - a) (64 * row - 32) (64 * row + 32) t) p q) ↔ InR f t p q ∧ rowS a b row p q := by
  unfold clpB clpF clpT InR rowS
  split
  · rename_i h0
    have hb : b = a := by omega
    have e0 : p * (b - a) = 0 := by rw [h0, Int.mul_zero]
    rw [e0]
    simp only [decide_eq_true_eq]
    constructor
    · intro ⟨⟨h1, h2⟩, h3⟩
      have k1 : (64 * row - 32) * q ≤ a * q := Int.mul_le_mul_of_nonneg_right h1 (by omega)
      have k2 : a * q < (64 * row + 32) * q := Int.mul_lt_mul_of_pos_right h2 hq
      exact ⟨h3, by omega, by omega⟩
    · intro ⟨h3, h1, h2⟩
      refine ⟨⟨?_, ?_⟩, h3⟩
      · exact Int.le_of_mul_le_mul_right (a := q) (by omega) hq
      · exact Int.lt_of_mul_lt_mul_right (a := q) (by omega) (by omega)
  · split
    · rename_i _ hd
      rw [lat_in hf (by simp only; omega) hq, soo_in ht (by simp only; omega) hq]
      have e1 : behS (64 * row - 32 - a) (b - a) false p q ↔ (64 * row - 32) * q ≤ a * q + p * (b - a) := by
        unfold behS; simp only [Bool.false_eq_true, if_false]
        have e : (64 * row - 32 - a) * q = (64 * row - 32) * q - a * q := by grind
        omega
      have e2 : aheS (64 * row + 32 - a) (b - a) true p q ↔ a * q + p * (b - a) < (64 * row + 32) * q := by
        unfold aheS; simp only [if_true]
        have e : (64 * row + 32 - a) * q = (64 * row + 32) * q - a * q := by grind
        omega
      simp only [e1, e2, true_and]
      constructor
      · intro ⟨⟨x1, x2⟩, x3, x4⟩; exact ⟨⟨x1, x3⟩, x2, x4⟩
      · intro ⟨⟨x1, x3⟩, x2, x4⟩; exact ⟨⟨x1, x2⟩, x3, x4⟩
    · rename_i _ hd
      rw [lat_in hf (by simp only; omega) hq, soo_in ht (by simp only; omega) hq]
      have e' : p * -(b - a) = -(p * (b - a)) := by grind
      have e1 : behS (a - (64 * row + 32)) (-(b - a)) true p q ↔ a * q + p * (b - a) < (64 * row + 32) * q := by
        unfold behS; simp only [if_true]
        have e : (a - (64 * row + 32)) * q = a * q - (64 * row + 32) * q := by grind
        omega
      have e2 : aheS (a - (64 * row - 32)) (-(b - a)) false p q ↔ (64 * row - 32) * q ≤ a * q + p * (b - a) := by
        unfold aheS; simp only [Bool.false_eq_true, if_false]
        have e : (a - (64 * row - 32)) * q = a * q - (64 * row - 32) * q := by grind
        omega
      simp only [e1, e2, true_and]
      constructor
      · intro ⟨⟨x1, x2⟩, x3, x4⟩; exact ⟨⟨x1, x3⟩, x4, x2⟩
      · intro ⟨⟨x1, x3⟩, x4, x2⟩; exact ⟨⟨x1, x2⟩, x3, x4⟩
def endR (f t : Shr) : Bool := decide (0 < abvS t f) || (decide (abvS t f = 0) && (!f.o && !t.o))
theorem end_iff {f t : Shr} (hf : 0 < f.d) (ht : 0 < t.d) : endR f t = true ↔ ∃ p q, 0 < q ∧ InR f t p q := by
  have h := emp_no (s := ⟨f.n, f.d, t.n, t.d, f.o, t.o⟩) ⟨hf, ht⟩
  have e : endR f t = !empS ⟨f.n, f.d, t.n, t.d, f.o, t.o⟩ := by
    unfold endR abvS empS cmpF
    simp only
    rcases cmp_is (t.n * f.d) (f.n * t.d) with ⟨e, k⟩ | ⟨e, k⟩ | ⟨e, k⟩ <;> rcases cmp_is (f.n * t.d) (t.n * f.d) with ⟨e', k'⟩ | ⟨e', k'⟩ | ⟨e', k'⟩ <;> (try omega) <;> rw [e, e'] <;> cases f.o <;> cases t.o <;> rfl
  rw [e, Bool.not_eq_true', h]
  exact Iff.rfl
def hitR (ax ay bx bz x y : Int) : Bool :=
  clpB ax (bx - ax) (64 * x - 32) (64 * x + 32) && (clpB ay (bz - ay) (64 * y - 32) (64 * y + 32) &&
    endR (clpF ay (bz - ay) (64 * y - 32) (64 * y + 32) (clpF ax (bx - ax) (64 * x - 32) (64 * x + 32) ⟨0, 1, false⟩)) (clpT ay (bz - ay) (64 * y - 32) (64 * y + 32) (clpT ax (bx - ax) (64 * x - 32) (64 * x + 32) ⟨1, 1, false⟩)))
theorem hitR_iff (ax ay bx bz x y : Int) : hitR ax ay bx bz x y = true ↔ HitG ax ay bx bz x y := by
  have d1 := clp_d (at' := ax) (d := bx - ax) (lo := 64 * x - 32) (hi := 64 * x + 32) (f := ⟨0, 1, false⟩) (t := ⟨1, 1, false⟩) (by simp) (by simp)
  have d2 := clp_d (at' := ay) (d := bz - ay) (lo := 64 * y - 32) (hi := 64 * y + 32) d1.1 d1.2
  unfold hitR HitG
  rw [Bool.and_eq_true, Bool.and_eq_true, end_iff d2.1 d2.2]
  constructor
  · intro ⟨h1, h2, p, q, hq, hi⟩
    have k := (clp_in d1.1 d1.2 hq).1 ⟨h2, hi⟩
    have k2 := (clp_in (f := ⟨0, 1, false⟩) (t := ⟨1, 1, false⟩) (by simp) (by simp) hq).1 ⟨h1, k.1⟩
    have k3 := (st0_in (p := p) (q := q)).1 k2.1
    exact ⟨p, q, hq, k3.1, k3.2, k2.2, k.2⟩
  · intro ⟨p, q, hq, hp, hpq, h1, h2⟩
    have k2 := (clp_in (f := ⟨0, 1, false⟩) (t := ⟨1, 1, false⟩) (by simp) (by simp) hq).2 ⟨(st0_in (p := p) (q := q)).2 ⟨hp, hpq⟩, h1⟩
    have k := (clp_in d1.1 d1.2 hq).2 ⟨k2.2, h2⟩
    exact ⟨k2.1, k.1, p, q, hq, k.2⟩
theorem hit_same (ax ay bx bz x y : Int) : hitS ax ay bx bz x y = hitR ax ay bx bz x y := by
  rw [Bool.eq_iff_iff, hit_iff, hitR_iff]
end Go.Proofs.Ytckochcocflleaa

/-
  All blocks but one stand.
-/
namespace Go.Proofs.Ytckochcocflleaa
open Go.RowKit Go.ChangeShapes Go.WideShapes
set_option linter.unusedVariables false

/-- All blocks but one are as they were. -/
def KeepBut (q : Nat) (w w' : World) : Prop := w.heap.size ≤ w'.heap.size ∧ ∀ b, b < w.heap.size → b ≠ q → w'.heap[b]? = w.heap[b]?
theorem KeepBut.refl (q : Nat) (w : World) : KeepBut q w w := ⟨Nat.le_refl _, fun _ _ _ => rfl⟩
theorem KeepBut.trans {q : Nat} {a b c : World} (h : KeepBut q a b) (k : KeepBut q b c) : KeepBut q a c := ⟨Nat.le_trans h.1 k.1, fun x hx hq => (k.2 x (Nat.lt_of_lt_of_le hx h.1) hq).trans (h.2 x hx hq)⟩
theorem KeepBut.since {q : Nat} {a b c : World} (h : KeepBut q a b) (k : Since b c) : KeepBut q a c := ⟨Nat.le_trans h.1 k.below.size, fun x hx hq => (k.below.block x (Nat.lt_of_lt_of_le hx h.1)).trans (h.2 x hx hq)⟩
theorem KeepBut.set {q : Nat} {a b : World} (h : KeepBut q a b) (o : Nat) (v : Value) : KeepBut q a (b.setCell ⟨q, o, none⟩ v) := ⟨by simpa [World.setCell] using h.1, fun x hx hq => by
  rw [← h.2 x hx hq]
  simp [World.setCell, Array.getElem?_modify, show ¬ q = x from fun e => hq e.symm]⟩
theorem KeepBut.cell {q : Nat} {a b : World} (h : KeepBut q a b) {x o : Nat} {v : Value} (hc : a.cell? ⟨x, o, none⟩ = some v) (hx : x < a.heap.size) (hq : x ≠ q) : b.cell? ⟨x, o, none⟩ = some v := by
  rw [← hc]; simp only [World.cell?, h.2 x hx hq]
end Go.Proofs.Ytckochcocflleaa

/-
  Words of this proof's own for slices: 'Rd' (a slice that reads as a function of the place), 'tab' (such a function's list), own rows.
-/
namespace Go.Proofs.Ytckochcocflleaa
open Go.RowKit

def In64 (n : Int) : Prop := -9223372036854775808 ≤ n ∧ n ≤ 9223372036854775807

def tab (n : Nat) (V : Nat → Value) : List Value := (List.range n).map V
theorem tab_len (n : Nat) (V : Nat → Value) : (tab n V).length = n := by simp [tab]
theorem tab_get (n : Nat) (V : Nat → Value) (j : Nat) : (tab n V)[j]? = if j < n then some (V j) else none := by
  unfold tab
  split
  · rename_i h; simp [h]
  · rename_i h; simp [h]
theorem tab_congr {n : Nat} {V U : Nat → Value} (h : ∀ j, j < n → V j = U j) : tab n V = tab n U := by
  apply List.ext_getElem?
  intro j
  rw [tab_get, tab_get]
  split
  · rw [h j (by assumption)]
  · rfl
theorem tab_zero (V : Nat → Value) : tab 0 V = [] := rfl
theorem tab_append (n m : Nat) (V U : Nat → Value) : tab n V ++ tab m U = tab (n + m) (fun j => if j < n then V j else U (j - n)) := by
  apply List.ext_getElem?
  intro j
  rw [List.getElem?_append, tab_len, tab_get, tab_get, tab_get]
  by_cases h : j < n
  · rw [if_pos h, if_pos h, if_pos (by omega), if_pos h]
  · rw [if_neg h, if_neg h]
    by_cases h2 : j - n < m
    · rw [if_pos h2, if_pos (by omega)]
    · rw [if_neg h2, if_neg (by omega)]
theorem tab_one (V : Nat → Value) : tab 1 V = [V 0] := rfl
theorem tab_rep (n : Nat) (v : Value) : List.replicate n v = tab n (fun _ => v) := by
  apply List.ext_getElem?
  intro j
  rw [tab_get, List.getElem?_replicate]
def IntRow (k : IntKind) (f : Nat → Int) (j : Nat) : Value := .int k (f j)
theorem tab_ones {n : Nat} {k : IntKind} {f : Nat → Int} : ∀ u ∈ tab n (IntRow k f), u.oneCell' = true := by
  intro u hu
  unfold tab at hu
  rw [List.mem_map] at hu
  obtain ⟨j, _, rfl⟩ := hu
  rfl

/-- A slice's n elements read as V, in a block below B (nil and empty let in). -/
def Rd (w : World) (B : Nat) (A : Option Addr) (n : Nat) (V : Nat → Value) : Prop :=
  0 < n → ∃ b o, A = some ⟨b, o, none⟩ ∧ b < B ∧ ∀ j, j < n → w.cell? ⟨b, o + j, none⟩ = some (V j)
section
variable {w w' : World} {B B' n : Nat} {A : Option Addr} {V U : Nat → Value}
theorem Rd.zero : Rd w B A 0 V := fun h => absurd h (by omega)
theorem Rd.keep (h : Rd w B A n V) (hk : ∀ b o, b < B → w'.cell? ⟨b, o, none⟩ = w.cell? ⟨b, o, none⟩) : Rd w' B A n V := fun hn => by
  obtain ⟨b, o, rfl, hb, hc⟩ := h hn
  exact ⟨b, o, rfl, hb, fun j hj => (hk _ _ hb).trans (hc j hj)⟩
theorem Rd.more (h : Rd w B A n V) (hB : B ≤ B') : Rd w B' A n V := fun hn => by
  obtain ⟨b, o, rfl, hb, hc⟩ := h hn
  exact ⟨b, o, rfl, by omega, hc⟩
theorem Rd.congr (h : Rd w B A n V) (e : ∀ j, j < n → V j = U j) : Rd w B A n U := fun hn => by
  obtain ⟨b, o, rfl, hb, hc⟩ := h hn
  exact ⟨b, o, rfl, hb, fun j hj => (hc j hj).trans (by rw [e j hj])⟩
theorem Rd.since (h : Rd w B A n V) (hB : B ≤ w.heap.size) (k : Since w w') : Rd w' B A n V := h.keep fun b o hb => k.1 b o (by omega)
theorem Rd.on (h : Rd w w.heap.size A n V) (k : Since w w') : Rd w' w'.heap.size A n V := (h.since (Nat.le_refl _) k).more k.below.size
theorem Rd.drew (h : Rd w B A n V) : Rd w.drew B A n V := h
theorem Rd.drewN (h : Rd w B A n V) (k : Nat) : Rd (w.drewN k) B A n V := h
theorem Rd.alloc (h : Rd w B A n V) (hB : B ≤ w.heap.size) (o : Obj) : Rd (w.alloc o) B A n V := h.keep fun b p hb => World.cell?_alloc_lt w o ⟨b, p, none⟩ (show b < w.heap.size by omega)
theorem Rd.setCell (h : Rd w B A n V) {p : Addr} (hB : B ≤ p.block) (u : Value) : Rd (w.setCell p u) B A n V :=
  h.keep fun b o hb => World.cell?_setCell_other w p ⟨b, o, none⟩ u (fun e => by subst e; simp at hB; omega)
theorem Rd.of_row {b : Nat} (h : Row w b n V) : Rd w w.heap.size (some ⟨b, 0, none⟩) n V := fun _ => ⟨b, 0, rfl, h.2.2, fun j hj => by rw [Nat.zero_add]; exact h.1 j hj⟩
/-- The first cells alone; those from a place on, as the walk writes a slice expression. -/
theorem Rd.take (h : Rd w B A n V) {m : Nat} (hm : m ≤ n) : Rd w B A m V := fun h0 => by
  obtain ⟨b, o, rfl, hb, hc⟩ := h (by omega)
  exact ⟨b, o, rfl, hb, fun j hj => hc j (by omega)⟩
theorem Rd.drop (h : Rd w B A n V) {k cap m : Nat} (hk : k + m ≤ n) (hc : n ≤ cap) : Rd w B (if cap = k then A else A.map (·.add k)) m (fun j => V (k + j)) := fun h0 => by
  obtain ⟨b, o, rfl, hb, hcell⟩ := h (by omega)
  rw [if_neg (by omega)]
  refine ⟨b, o + k, ?_, hb, fun j hj => ?_⟩
  · unfold Addr.add; split <;> simp_all
  · rw [Nat.add_assoc]; exact hcell _ (by omega)
/-- An own row's cells. -/
theorem row_of_own {base : Nat} {e : TypeId} {g cap : Nat} (h : w.ownsRow base e 1 (.slice (some ⟨g, 0, none⟩) n cap) n (tab n V)) : Row w g n V := by
  refine ⟨fun j hj => ?_, fun j => h.frozenAt j, ?_⟩
  · rw [h.cellAt j (by omega), tab_get, if_pos hj]
  · rcases h.2 with ⟨e1, _⟩ | ⟨g', c', cur, e1, _, hh, _⟩
    · cases e1
    · injection e1 with e1 _ _
      injection e1 with e1
      injection e1 with e1
      subst e1
      rcases Nat.lt_or_ge g w.heap.size with hlt | hge
      · exact hlt
      · rw [Array.getElem?_eq_none hge] at hh; cases hh
theorem own_base {base : Nat} {e : TypeId} {g cap : Nat} {xs : List Value} (h : w.ownsRow base e 1 (.slice (some ⟨g, 0, none⟩) n cap) n xs) : base ≤ g := by
  rcases h.2 with ⟨e1, _⟩ | ⟨g', c', cur, e1, hb, _⟩
  · cases e1
  · injection e1 with e1 _ _
    injection e1 with e1
    injection e1 with e1
    omega
theorem own_since {base : Nat} {e : TypeId} {v : Value} {xs : List Value} (h : w.ownsRow base e 1 v n xs) (k : Since w w') : w'.ownsRow base e 1 v n xs := by
  refine ⟨h.1, ?_⟩
  rcases h.2 with h0 | ⟨g, cap, cur, e1, hb, hh, r⟩
  · exact .inl h0
  · refine .inr ⟨g, cap, cur, e1, hb, ?_, r⟩
    have hlt : g < w.heap.size := by
      rcases Nat.lt_or_ge g w.heap.size with hlt | hge
      · exact hlt
      · rw [Array.getElem?_eq_none hge] at hh; cases hh
    rw [k.below.block g hlt]; exact hh
theorem since_grown {w0 : World} {row : Option Nat} (h : Since w0 w) (hg : w.grownBy w' row) (hr : ∀ k, row = some k → w0.heap.size ≤ k) : Since w0 w' := since_of (h.below.grown hg h.below.size hr)
end

section
variable {P : Program} (w : World)
/-- append to a row of the call's own that is no nil: of elements that read so, nil and empty let in: the new value written out, and where it lies. -/
theorem run_append_rd (base : Nat) (t ty e : TypeId) (i : TypeInfo) (z : Value) (bytes : Nat) (ht : P.underlying t = some (.slice e)) (hi : P.info? e = some i) (hz : i.zero = some z)
    (hsize : i.size = 1) (hby : i.bytes = bytes) (hzs : z.cells.size = 1) (g cap n : Nat) (xs : List Value) (hown : w.ownsRow base e 1 (.slice (some ⟨g, 0, none⟩) n cap) n xs)
    (B : Nat) (A : Option Addr) (m c : Nat) (V : Nat → Value) (hr : Rd w B A m V) (h1 : ∀ u ∈ tab m V, u.oneCell' = true) (hbytes : (n + m) * bytes ≤ 140737488355328) (h63 : n + m ≤ maxLen) (hbase : base ≤ w.heap.size) :
    ∃ g' cap' w', (Builtin.append_ #[t, t] ty #[.slice (some ⟨g, 0, none⟩) n cap, .slice A m c]).run P w = .ok (.slice (some ⟨g', 0, none⟩) (n + m) cap') w' ∧ w'.ownsRow base e 1 (.slice (some ⟨g', 0, none⟩) (n + m) cap') (n + m) (xs ++ tab m V) ∧ w.grownBy w' (some g) ∧ (g' = g ∨ g' = w.heap.size) := by
  have hcap : n ≤ cap := by
    rcases hown.2 with ⟨e1, _⟩ | ⟨_, _, _, e1, _, _, hnc, _⟩
    · cases e1
    · injection e1 with _ _ e3; omega
  rcases A with _ | ad
  · have hm : m = 0 := by
      rcases Nat.eq_zero_or_pos m with h0 | h0
      · exact h0
      · obtain ⟨b, o, h, _⟩ := hr h0; cases h
    subst hm
    refine ⟨g, cap, w, ?_, by simpa [tab_zero] using hown, World.grownBy.refl w _, .inl rfl⟩
    simp [Builtin.append_, run_underlying ht, sizeOf, typeInfo, hi, Builtin.lenOf, Builtin.firstCells, hcap, storeCells]
  · have hc : ∀ j u, (tab m V)[j]? = some u → w.cell? (ad.add j) = some u := by
      intro j u hu
      rw [tab_get] at hu
      split at hu
      · rename_i hj
        obtain ⟨b, o, h, _, hc⟩ := hr (by omega)
        injection h with h; subst h; injection hu with hu; subst hu
        rw [← hc j hj]
        unfold Addr.add; split <;> simp_all
      · cases hu
    obtain ⟨v', w', hrun, h2, h3, h4, h5⟩ := run_append_own_at (P := P) w base t ty e i z 1 bytes ht hi hz hsize hby hzs (by omega) _ n xs hown ad m c (tab m V) (by rw [tab_len]; omega) hc h1 h63 hbytes hbase
    rcases h2.2 with ⟨e1, _⟩ | ⟨g', cap', _, e1, _⟩
    · exact absurd (h4.mp e1).1 (by simp)
    · subst e1
      refine ⟨g', cap', w', hrun, h2, h3, ?_⟩
      rcases h5 with h5 | h5
      · left; simpa [Value.ownBlock] using h5
      · right; simpa [Value.ownBlock] using h5

theorem wpList_append_rd {ops : Array Oper} {rest : List Oper} {o : Oper} {a : Act} {Q : Exit → Act → World → Prop} (hgd : o.guard = none) (s x : Operand) (t : TypeId)
    (ho : o.op = .call { callee := .builtin .append, args := #[s, x], argTypes := #[t, t] })
    (base : Nat) (e : TypeId) (i : TypeInfo) (z : Value) (bytes : Nat) (ht : P.underlying t = some (.slice e)) (hi : P.info? e = some i) (hz : i.zero = some z)
    (hsize : i.size = 1) (hby : i.bytes = bytes) (hzs : z.cells.size = 1) (g cap n : Nat) (xs : List Value) (hs : a.eval s = .slice (some ⟨g, 0, none⟩) n cap) (hown : w.ownsRow base e 1 (.slice (some ⟨g, 0, none⟩) n cap) n xs)
    (B : Nat) (A : Option Addr) (m c : Nat) (V : Nat → Value) (hx : a.eval x = .slice A m c) (hr : Rd w B A m V) (h1 : ∀ u ∈ tab m V, u.oneCell' = true) (hbytes : (n + m) * bytes ≤ 140737488355328) (h63 : n + m ≤ maxLen) (hbase : base ≤ w.heap.size)
    (h : ∀ g' cap' w', w'.ownsRow base e 1 (.slice (some ⟨g', 0, none⟩) (n + m) cap') (n + m) (xs ++ tab m V) → w.grownBy w' (some g) → (g' = g ∨ g' = w.heap.size) → wpList P ops Q rest (a.put o.dst (.slice (some ⟨g', 0, none⟩) (n + m) cap')) w') :
    wpList P ops Q (o :: rest) a w := by
  refine wpList_plain hgd fun K hK => ?_
  obtain ⟨g', cap', w', hr, h2, h3, h4⟩ := run_append_rd (P := P) w base t o.type e i z bytes ht hi hz hsize hby hzs g cap n xs hown B A m c V hr h1 hbytes h63 hbase
  unfold Oper.wp execOp
  simp only [ho, resolve, invoke, builtin, Sem.run_bind, Sem.run_pure, Result.andThen_ok, List.map_toArray, List.map_cons, List.map_nil, hs, hx, hr]
  exact hK _ _ (h g' cap' w' h2 h3 h4)
end

section
variable {P : Program} (w : World)
/-- make([]T, n), T of one cell: an own row of noughts. -/
theorem wpList_make_tab {ops : Array Oper} {rest : List Oper} {o : Oper} {a : Act} {Q : Exit → Act → World → Prop}
    (hg : o.guard = none) (l c : Operand) (t : TypeId) (hop : o.op = Op.makeSlice t l c)
    (e : TypeId) (i : TypeInfo) (k : IntKind) (bytes : Nat) (h1 : P.underlying t = some (.slice e)) (h2 : P.info? e = some i) (h3 : i.zero = some (.int k 0)) (h4 : i.size = 1) (h5 : i.bytes = bytes)
    (kl kc : IntKind) (n : Nat) (hl : a.eval l = .int kl (n : Int)) (hc : a.eval c = .int kc (n : Int)) (b2 : bytes * n ≤ 281474976710656) (b3 : n ≤ maxLen)
    (hK : ∀ w', w'.ownsRow w.heap.size e 1 (.slice (some ⟨w.heap.size, 0, none⟩) n n) n (tab n (IntRow k (fun _ => 0))) → Since w w' → wpList P ops Q rest (a.put o.dst (.slice (some ⟨w.heap.size, 0, none⟩) n n)) w') :
    wpList P ops Q (o :: rest) a w := by
  refine wpList_make_full w hg l c t hop w.heap.size e i (.int k 0) 1 h1 h2 h3 h4 kl kc (n : Int) (n : Int) n hl hc rfl rfl (by rw [h5]; exact b2) b3 (Nat.le_refl _) (fun w' hown hgr => hK w' ?_ (since_grown (Since.refl w) hgr (fun k hk => by cases hk)))
  have e1 : (madeCells (Value.int k 0).cells (n * 1)).toList = tab n (IntRow k (fun _ => 0)) := by
    rw [show (Value.int k 0).cells = #[.int k 0] from rfl, Nat.mul_one, toList_madeCells_one, tab_rep]
    rfl
  rw [e1] at hown
  exact hown
end
end Go.Proofs.Ytckochcocflleaa
