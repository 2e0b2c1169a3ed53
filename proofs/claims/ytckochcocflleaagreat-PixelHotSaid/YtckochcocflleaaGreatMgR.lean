/-
  Texts of this seat, put together: each with its own head.
-/
import Derived.Test.YtckochcocflleaaGreatMgW
import Derived.Test.YtckochcocflleaaGreatKit
import Derived.Deep.QuietTactic
import Derived.BigQuiet
import Derived.ChangeKeysEq
import Derived.Deep.Cut

/-
  The document's numbers of eight digits to the base 65536, as plain arithmetic.
-/
namespace Go.Proofs.YtckochcocflleaaGreat
open Go.RowKit

/-- What a digit counts. -/
def B (i : Nat) : Int := 65536 ^ i
/-- A digit of a number. -/
def dg (n : Int) (i : Nat) : Int := n / B i % 65536
theorem B_pos (i : Nat) : 0 < B i := Int.pow_pos (by omega)
theorem B_succ (i : Nat) : B (i + 1) = B i * 65536 := Int.pow_succ 65536 i
theorem dg_bd (n : Int) (i : Nat) : 0 ≤ dg n i ∧ dg n i < 65536 := by unfold dg; omega
/-- The digits of a number, as the document has it. -/
@[reducible] def D (n : Int) : Value := .agg #[.int .u32 (dg n 0), .int .u32 (dg n 1), .int .u32 (dg n 2), .int .u32 (dg n 3), .int .u32 (dg n 4), .int .u32 (dg n 5), .int .u32 (dg n 6), .int .u32 (dg n 7)]
/-- What is carried to digit i. -/
def car (a b : Int) (i : Nat) : Int := (a % B i + b % B i) / B i
theorem low_bd (a : Int) (i : Nat) : 0 ≤ a % B i ∧ a % B i < B i := ⟨Int.emod_nonneg _ (Int.ne_of_gt (B_pos i)), Int.emod_lt_of_pos _ (B_pos i)⟩
theorem car_bd (a b : Int) (i : Nat) : 0 ≤ car a b i ∧ car a b i ≤ 1 := by
  have h1 := low_bd a i; have h2 := low_bd b i; have h3 := B_pos i
  unfold car
  constructor
  · exact Int.ediv_nonneg (by omega) (by omega)
  · have : (a % B i + b % B i) / B i < 2 := Int.ediv_lt_of_lt_mul h3 (by omega)
    omega
theorem low_succ (a : Int) (i : Nat) : a % B (i + 1) = dg a i * B i + a % B i := by
  unfold dg
  rw [B_succ]
  have h1 := Int.mul_ediv_add_emod a (B i)
  have h2 := low_bd a i
  have hb := B_pos i
  have key : a % (B i * 65536) = B i * (a / B i % 65536) + a % B i := by
    have e1 := Int.mul_ediv_add_emod (a / B i) 65536
    have e2 : a = (B i * (a / B i % 65536) + a % B i) + (B i * 65536) * (a / B i / 65536) := by
      have : B i * (a / B i) = B i * (65536 * (a / B i / 65536) + a / B i % 65536) := by rw [e1]
      rw [Int.mul_add, ← Int.mul_assoc] at this
      omega
    have h3 : 0 ≤ a / B i % 65536 := by omega
    have h4 : B i * (a / B i % 65536) ≤ B i * 65535 := Int.mul_le_mul_of_nonneg_left (by omega) (by omega)
    have h5 : 0 ≤ B i * (a / B i % 65536) := Int.mul_nonneg (by omega) h3
    conv => lhs; rw [e2]
    rw [Int.add_mul_emod_self_left]
    exact Int.emod_eq_of_lt (by omega) (by omega)
  rw [key, Int.mul_comm]
theorem sum_step (a b : Int) (i : Nat) : a % B i + b % B i = (a + b) % B i + B i * car a b i := by
  have h1 := Int.mul_ediv_add_emod (a % B i + b % B i) (B i)
  rw [← Int.add_emod] at h1
  unfold car
  omega
theorem car_zero (a b : Int) : car a b 0 = 0 := by
  have h1 := car_bd a b 0
  have h := sum_step a b 0
  have e : B 0 = 1 := rfl
  rw [e] at h; omega
theorem dg_add (a b : Int) (i : Nat) : dg (a + b) i = (dg a i + dg b i + car a b i) % 65536 ∧ car a b (i + 1) = (dg a i + dg b i + car a b i) / 65536 := by
  have s0 := sum_step a b i
  have s1 := sum_step a b (i + 1)
  rw [low_succ a, low_succ b, low_succ (a + b), B_succ] at s1
  have b1 := dg_bd a i; have b2 := dg_bd b i; have b3 := dg_bd (a + b) i; have c0 := car_bd a b i; have c1 := car_bd a b (i + 1)
  have hB := B_pos i
  have key : B i * (dg a i + dg b i + car a b i) = B i * (dg (a + b) i + 65536 * car a b (i + 1)) := by
    have e1 : B i * (dg a i + dg b i + car a b i) = dg a i * B i + dg b i * B i + B i * car a b i := by rw [Int.mul_add, Int.mul_add, Int.mul_comm (B i) (dg a i), Int.mul_comm (B i) (dg b i)]
    have e2 : B i * (dg (a + b) i + 65536 * car a b (i + 1)) = dg (a + b) i * B i + B i * 65536 * car a b (i + 1) := by rw [Int.mul_add, Int.mul_comm (B i) (dg (a + b) i), Int.mul_assoc]
    rw [e1, e2]; omega
  have := Int.eq_of_mul_eq_mul_left (by omega) key
  omega
/-- Numbers that are alike up to 2^128 have the same digits. -/
theorem dg_mod (n : Int) (i : Nat) (hi : i < 8) : dg (n % 340282366920938463463374607431768211456) i = dg n i := by
  have h : i = 0 ∨ i = 1 ∨ i = 2 ∨ i = 3 ∨ i = 4 ∨ i = 5 ∨ i = 6 ∨ i = 7 := by omega
  unfold dg B
  rcases h with rfl | rfl | rfl | rfl | rfl | rfl | rfl | rfl <;> simp only [Int.reducePow] <;> omega
theorem D_mod (n : Int) : D (n % 340282366920938463463374607431768211456) = D n := by
  unfold D; simp only [dg_mod _ _ (show 0 < 8 by omega), dg_mod _ _ (show 1 < 8 by omega), dg_mod _ _ (show 2 < 8 by omega), dg_mod _ _ (show 3 < 8 by omega), dg_mod _ _ (show 4 < 8 by omega), dg_mod _ _ (show 5 < 8 by omega), dg_mod _ _ (show 6 < 8 by omega), dg_mod _ _ (show 7 < 8 by omega)]
end Go.Proofs.YtckochcocflleaaGreat

/-
  The document's sums of numbers of eight digits, walked.
-/
namespace Go.Proofs.YtckochcocflleaaGreat
open Go.RowKit
set_option linter.unusedVariables false

/-- A row of eight numbers, known by its values. -/
theorem row8 (w : World) (b : Nat) (hb : b = w.heap.size) (t : TypeId) (f : Nat → Int) : Row (w.alloc (.cells #[.int .u32 (f 0), .int .u32 (f 1), .int .u32 (f 2), .int .u32 (f 3), .int .u32 (f 4), .int .u32 (f 5), .int .u32 (f 6), .int .u32 (f 7)] t)) b 8 (fun j => .int .u32 (f j)) := by
  subst hb
  refine Row.of_cells fun j hj => ?_
  have h : j = 0 ∨ j = 1 ∨ j = 2 ∨ j = 3 ∨ j = 4 ∨ j = 5 ∨ j = 6 ∨ j = 7 := by omega
  rcases h with rfl | rfl | rfl | rfl | rfl | rfl | rfl | rfl <;> rfl
/-- The digits below k are the sum's, the others nought. -/
def upTo (f : Nat → Int) (k j : Nat) : Int := if j < k then f j else 0
theorem upTo_lt {f : Nat → Int} {k j : Nat} (h : j < k) : upTo f k j = f j := by unfold upTo; rw [if_pos h]
theorem upTo_succ (f : Nat → Int) (k j : Nat) : (if j = k then f k else upTo f k j) = upTo f (k + 1) j := by
  unfold upTo
  by_cases h : j = k
  · subst h; simp
  · rw [if_neg h]
    by_cases h2 : j < k
    · rw [if_pos h2, if_pos (by omega)]
    · rw [if_neg h2, if_neg (by omega)]
theorem upTo_row {w : World} {b k : Nat} {f : Nat → Int} (h : Row w b 8 (fun j => .int .u32 (upTo f k j))) (v : Int) (e : v = f k) : Row (w.setCell ⟨b, k, none⟩ (.int .u32 v)) b 8 (fun j => .int .u32 (upTo f (k + 1) j)) := by
  refine (h.set k _).congr fun j hj => ?_
  rw [← upTo_succ, e]
  by_cases hx : j = k
  · simp [hx]
  · simp [hx]

theorem ref_add (a b : Int) (w : World) :
    Calls Tryz.prog 48 #[D a, D b] w fun e w' => e = .returned (D (a + b)) ∧ Since w w' := by
  go_enter Tryz.func48, Tryz.ntmps48
  go_wp2
  go_loopw [6, 7] (fun c i wr => ∃ k : Nat, k ≤ 8 ∧ i = .int .i64 k ∧ c = .int .u32 (car a b k) ∧ Since w wr ∧ Row wr w.heap.size 8 (fun j => .int .u32 (dg a j)) ∧ Row wr (w.heap.size + 1) 8 (fun j => .int .u32 (dg b j)) ∧ Row wr (w.heap.size + 1 + 1) 8 (fun j => .int .u32 0) ∧ Row wr (w.heap.size + 1 + 1 + 1) 8 (fun j => .int .u32 (upTo (dg (a + b)) k j))) (fun _ i _ => 8 - (intOf i).toNat)
  case atStart =>
    refine ⟨0, by omega, rfl, by rw [car_zero], by (repeat (first | with_reducible (exact Since.refl _) | with_reducible assumption | with_reducible (refine Since.drew ?_) | with_reducible (refine Since.drewN ?_ _) | with_reducible (refine Since.alloc ?_ _) | (with_reducible (refine Since.setCell ?_ ?_ _); rotate_left; focus (first | (simp; done) | (simp; omega) | omega)) | (with_reducible (refine Since.trans ?_ (by with_reducible assumption))))), ?_, ?_, ?_, ?_⟩
    · exact (((row8 w _ rfl _ (dg a)).alloc _).alloc _).alloc _
    · exact ((row8 _ _ (by simp) _ (dg b)).alloc _).alloc _
    · exact (row8 _ _ (by simp) _ (fun _ => 0)).alloc _
    · exact (row8 _ _ (by simp) _ (fun _ => 0)).congr fun j hj => by simp [upTo]
  case round =>
    obtain ⟨k, hk, rfl, rfl, hS, hA, hB, hC, hN⟩ := hrel
    obtain ⟨a1, a2⟩ := dg_bd a k; obtain ⟨b1, b2⟩ := dg_bd b k; obtain ⟨c1, c2⟩ := car_bd a b k
    obtain ⟨e1, e2⟩ := dg_add a b k
    have He1 := Lib.hid e1; have He2 := Lib.hid e2; clear e1 e2
    obtain ⟨hA1, hA2, hA3⟩ := id hA; obtain ⟨hB1, hB2, hB3⟩ := id hB; obtain ⟨hC1, hC2, hC3⟩ := id hC; obtain ⟨hN1, hN2, hN3⟩ := id hN
    by_cases hlt : k < 8
    · go_wp2
      go_quiet (fail)
      go_wp2
      refine ⟨⟨k + 1, by omega, by go_num, by rw [He2.out], by (repeat (first | with_reducible (exact Since.refl _) | with_reducible assumption | with_reducible (refine Since.drew ?_) | with_reducible (refine Since.drewN ?_ _) | with_reducible (refine Since.alloc ?_ _) | (with_reducible (refine Since.setCell ?_ ?_ _); rotate_left; focus (first | (simp; done) | (simp; omega) | omega)) | (with_reducible (refine Since.trans ?_ (by with_reducible assumption))))), by (repeat (first | with_reducible assumption | with_reducible (refine Row.drewN ?_ _) | with_reducible (refine Row.drew ?_) | with_reducible (refine Row.alloc ?_ _) | (with_reducible (refine Row.far ?_ ?_ _ _); rotate_left; focus (first | (simp; done) | (simp; omega) | omega)) | with_reducible (refine Row.since ?_ (by with_reducible assumption)))), by (repeat (first | with_reducible assumption | with_reducible (refine Row.drewN ?_ _) | with_reducible (refine Row.drew ?_) | with_reducible (refine Row.alloc ?_ _) | (with_reducible (refine Row.far ?_ ?_ _ _); rotate_left; focus (first | (simp; done) | (simp; omega) | omega)) | with_reducible (refine Row.since ?_ (by with_reducible assumption)))), by (repeat (first | with_reducible assumption | with_reducible (refine Row.drewN ?_ _) | with_reducible (refine Row.drew ?_) | with_reducible (refine Row.alloc ?_ _) | (with_reducible (refine Row.far ?_ ?_ _ _); rotate_left; focus (first | (simp; done) | (simp; omega) | omega)) | with_reducible (refine Row.since ?_ (by with_reducible assumption)))), ?_⟩, by simp [intOf]; omega⟩
      exact upTo_row (hN.drewN _) _ He1.out.symm
    · obtain rfl : k = 8 := by omega
      have hu := fun j (hj : j < 8) => upTo_lt (f := dg (a + b)) hj
      go_wp2
      refine bodyPost_ret (by simp only [results, Tryz.results48]; go_simp) rfl ⟨rfl, ?_⟩
      (repeat (first | with_reducible (exact Since.refl _) | with_reducible assumption | with_reducible (refine Since.drew ?_) | with_reducible (refine Since.drewN ?_ _) | with_reducible (refine Since.alloc ?_ _) | (with_reducible (refine Since.setCell ?_ ?_ _); rotate_left; focus (first | (simp; done) | (simp; omega) | omega)) | (with_reducible (refine Since.trans ?_ (by with_reducible assumption)))))
end Go.Proofs.YtckochcocflleaaGreat

/-
  Two rows of eight digits are held against each other.
-/
namespace Go.Proofs.YtckochcocflleaaGreat
open Go.RowKit
set_option linter.unusedVariables false

theorem eq_num (w : World) (x0 x1 x2 x3 x4 x5 x6 x7 y0 y1 y2 y3 y4 y5 y6 y7 : Int) :
    (Op.equalIn 10000 62 (.agg #[.int .u32 x0, .int .u32 x1, .int .u32 x2, .int .u32 x3, .int .u32 x4, .int .u32 x5, .int .u32 x6, .int .u32 x7]) (.agg #[.int .u32 y0, .int .u32 y1, .int .u32 y2, .int .u32 y3, .int .u32 y4, .int .u32 y5, .int .u32 y6, .int .u32 y7])).run Tryz.prog w =
      .ok (x0 == y0 && (x1 == y1 && (x2 == y2 && (x3 == y3 && (x4 == y4 && (x5 == y5 && (x6 == y6 && x7 == y7))))))) w := by
  obtain ⟨i, hi⟩ : ∃ i, Tryz.prog.info? 60 = some i := Option.isSome_iff_exists.1 (by kernel_rfl)
  rw [run_equalIn_array w 9999 (e := 60) (n := 8) (i := i) _ _ Tryz.underlying62 hi]
  have hc : Tryz.prog.cellsOf 60 = 1 := by kernel_rfl
  rw [hc]
  have hl : List.range 8 = [0, 1, 2, 3, 4, 5, 6, 7] := rfl
  rw [hl]
  have heq : ∀ (d : Nat) (a b : Int), (Op.equalIn (d + 1) 60 (.int .u32 a) (.int .u32 b)).run Tryz.prog w = .ok (a == b) w := fun d a b => run_equalIn_int w d _ _ _ a b Tryz.underlying60
  simp only [Op.eqItems]
  by_cases h0 : x0 = y0
  · by_cases h1 : x1 = y1
    · by_cases h2 : x2 = y2
      · by_cases h3 : x3 = y3
        · by_cases h4 : x4 = y4
          · by_cases h5 : x5 = y5
            · by_cases h6 : x6 = y6
              · by_cases h7 : x7 = y7
                · simp [go_sem, h0, h1, h2, h3, h4, h5, h6, h7]
                · simp [go_sem, h0, h1, h2, h3, h4, h5, h6, h7]
              · simp [go_sem, h0, h1, h2, h3, h4, h5, h6]
            · simp [go_sem, h0, h1, h2, h3, h4, h5]
          · simp [go_sem, h0, h1, h2, h3, h4]
        · simp [go_sem, h0, h1, h2, h3]
      · simp [go_sem, h0, h1, h2]
    · simp [go_sem, h0, h1]
  · simp [go_sem, h0]
attribute [go_sem] eq_num
end Go.Proofs.YtckochcocflleaaGreat

/-
  The document's numbers of eight digits, walked: made of two words; negated; taken away; their sign and order.
-/
namespace Go.Proofs.YtckochcocflleaaGreat
open Go.RowKit
set_option linter.unusedVariables false

def ofv (N : Int) (k j : Nat) : Int := if j < k ∨ (4 ≤ j ∧ j < k + 4) then dg N j else 0
theorem ofv_step {w : World} {b k : Nat} {N v1 v2 : Int} (hk : k < 4) (h : Row w b 8 (fun j => .int .u32 (ofv N k j))) (e1 : v1 = dg N k) (e2 : v2 = dg N (k + 4)) :
    Row ((w.setCell ⟨b, k, none⟩ (.int .u32 v1)).setCell ⟨b, k + 4, none⟩ (.int .u32 v2)) b 8 (fun j => .int .u32 (ofv N (k + 1) j)) := by
  refine ((h.set k _).set (k + 4) _).congr fun j hj => ?_
  unfold ofv
  by_cases h1 : j = k + 4
  · subst h1; simp [e2]
  · by_cases h2 : j = k
    · subst h2; simp [e1]
    · simp only [h1, h2, if_false]
      congr 1
      by_cases h3 : j < k ∨ (4 ≤ j ∧ j < k + 4)
      · rw [if_pos h3, if_pos (by omega)]
      · rw [if_neg h3, if_neg (by omega)]
theorem dg_low (h l : Int) (k : Nat) (hk : k < 4) (l0 : 0 ≤ l) (l1 : l < 18446744073709551616) : dg (h * 18446744073709551616 + l) k = l / B k % 65536 := by
  have : k = 0 ∨ k = 1 ∨ k = 2 ∨ k = 3 := by omega
  unfold dg B
  rcases this with rfl | rfl | rfl | rfl <;> simp only [Int.reducePow] <;> omega
theorem dg_high (h l : Int) (k : Nat) (hk : k < 4) (l0 : 0 ≤ l) (l1 : l < 18446744073709551616) : dg (h * 18446744073709551616 + l) (k + 4) = IntKind.u64.wrap h / B k % 65536 := by
  have : k = 0 ∨ k = 1 ∨ k = 2 ∨ k = 3 := by omega
  rw [IntKind.wrap_u64]
  unfold dg B
  rcases this with rfl | rfl | rfl | rfl <;> simp only [Int.reducePow, Nat.reduceAdd] <;> omega
theorem div_B (x : Int) (k : Nat) : x / B k / 65536 = x / B (k + 1) := by rw [B_succ, Int.ediv_ediv_of_nonneg (Int.le_of_lt (B_pos k))]
theorem div_B_bd {x : Int} (k : Nat) (h0 : 0 ≤ x) (h1 : x < 18446744073709551616) : 0 ≤ x / B k ∧ x / B k < 18446744073709551616 :=
  ⟨Int.ediv_nonneg h0 (Int.le_of_lt (B_pos k)), Int.lt_of_le_of_lt (Int.ediv_le_self _ h0) h1⟩

theorem ref_of (h l : Int) (l0 : 0 ≤ l) (l1 : l < 18446744073709551616) (w : World) :
    Calls Tryz.prog 73 #[.int .i64 h, .int .u64 l] w fun e w' => e = .returned (D (h * 18446744073709551616 + l)) ∧ Since w w' := by
  obtain ⟨u0, u1⟩ := u64_bd h
  go_enter Tryz.func73, Tryz.ntmps73
  go_wp2
  go_loopw [1, 6, 7] (fun lo hh i wr => ∃ k : Nat, k ≤ 4 ∧ i = .int .i64 k ∧ lo = .int .u64 (l / B k) ∧ hh = .int .u64 (IntKind.u64.wrap h / B k) ∧ Since w wr ∧ Row wr w.heap.size 8 (fun j => .int .u32 0) ∧ Row wr (w.heap.size + 1) 8 (fun j => .int .u32 (ofv (h * 18446744073709551616 + l) k j))) (fun _ _ i _ => 4 - (intOf i).toNat)
  case atStart =>
    refine ⟨0, by omega, rfl, by simp [B], by simp [B], by (repeat (first | with_reducible (exact Since.refl _) | with_reducible assumption | with_reducible (refine Since.drew ?_) | with_reducible (refine Since.drewN ?_ _) | with_reducible (refine Since.alloc ?_ _) | (with_reducible (refine Since.setCell ?_ ?_ _); rotate_left; focus (first | (simp; done) | (simp; omega) | omega)) | (with_reducible (refine Since.trans ?_ (by with_reducible assumption))))), ?_, ?_⟩
    · exact (row8 _ _ rfl _ (fun _ => 0)).alloc _
    · exact (row8 _ _ (by simp) _ (fun _ => 0)).congr fun j hj => by simp [ofv]; omega
  case round =>
    obtain ⟨k, hk, rfl, rfl, rfl, hS, hC, hN⟩ := hrel
    obtain ⟨a1, a2⟩ := div_B_bd k l0 l1; obtain ⟨b1, b2⟩ := div_B_bd k u0 u1
    obtain ⟨hC1, hC2, hC3⟩ := id hC; obtain ⟨hN1, hN2, hN3⟩ := id hN
    by_cases hlt : k < 4
    · have h8 : k < 8 := by omega
      have h48 : k + 4 < 8 := by omega
      go_wp2
      refine ⟨⟨k + 1, by omega, by go_num, by rw [div_B], by rw [div_B], by (repeat (first | with_reducible (exact Since.refl _) | with_reducible assumption | with_reducible (refine Since.drew ?_) | with_reducible (refine Since.drewN ?_ _) | with_reducible (refine Since.alloc ?_ _) | (with_reducible (refine Since.setCell ?_ ?_ _); rotate_left; focus (first | (simp; done) | (simp; omega) | omega)) | (with_reducible (refine Since.trans ?_ (by with_reducible assumption))))), by (repeat (first | with_reducible assumption | with_reducible (refine Row.drewN ?_ _) | with_reducible (refine Row.drew ?_) | with_reducible (refine Row.alloc ?_ _) | (with_reducible (refine Row.far ?_ ?_ _ _); rotate_left; focus (first | (simp; done) | (simp; omega) | omega)) | with_reducible (refine Row.since ?_ (by with_reducible assumption)))), ofv_step hlt hN (dg_low h l k hlt l0 l1).symm (dg_high h l k hlt l0 l1).symm⟩, by simp [intOf]; omega⟩
    · obtain rfl : k = 4 := by omega
      have hu : ∀ j, j < 8 → ofv (h * 18446744073709551616 + l) 4 j = dg (h * 18446744073709551616 + l) j := fun j hj => by unfold ofv; rw [if_pos (by omega)]
      go_wp2
      refine bodyPost_ret (by simp only [results, Tryz.results73]; go_simp) rfl ⟨rfl, ?_⟩
      (repeat (first | with_reducible (exact Since.refl _) | with_reducible assumption | with_reducible (refine Since.drew ?_) | with_reducible (refine Since.drewN ?_ _) | with_reducible (refine Since.alloc ?_ _) | (with_reducible (refine Since.setCell ?_ ?_ _); rotate_left; focus (first | (simp; done) | (simp; omega) | omega)) | (with_reducible (refine Since.trans ?_ (by with_reducible assumption)))))

theorem ref_small (n : Int) (hn : InW n) (w : World) :
    Calls Tryz.prog 47 #[.int .i64 n] w fun e w' => e = .returned (D n) ∧ Since w w' := by
  unfold InW at hn
  obtain ⟨u0, u1⟩ := u64_bd n
  by_cases h : n < 0
  · have e : -1 * 18446744073709551616 + IntKind.u64.wrap n = n := by rw [IntKind.wrap_u64]; omega
    have c := fun W' => ref_of (-1) (IntKind.u64.wrap n) u0 u1 W'
    rw [e] at c
    have C := Lib.hid c; clear c e
    have h' : decide (n < 0) = true := by simpa using h
    go_enter Tryz.func47, Tryz.ntmps47
    go_wp2_with (go_at_call 73; refine (C.out _).mono ?_; rintro e w1 ⟨rfl, hS1⟩; obtain ⟨hc1, hf1, hz1, hb1⟩ := id hS1)
    refine bodyPost_ret (by simp only [results, Tryz.results47]; go_simp) rfl ⟨rfl, ?_⟩
    (repeat (first | with_reducible (exact Since.refl _) | with_reducible assumption | with_reducible (refine Since.drew ?_) | with_reducible (refine Since.drewN ?_ _) | with_reducible (refine Since.alloc ?_ _) | (with_reducible (refine Since.setCell ?_ ?_ _); rotate_left; focus (first | (simp; done) | (simp; omega) | omega)) | (with_reducible (refine Since.trans ?_ (by with_reducible assumption)))))
  · have e : 0 * 18446744073709551616 + IntKind.u64.wrap n = n := by rw [IntKind.wrap_u64]; omega
    have c := fun W' => ref_of 0 (IntKind.u64.wrap n) u0 u1 W'
    rw [e] at c
    have C := Lib.hid c
    have e' : IntKind.u64.wrap n = n := by rw [IntKind.wrap_u64]; omega
    clear c e
    rw [e'] at C
    clear e'
    have h' : decide (n < 0) = false := by simpa using h
    go_enter Tryz.func47, Tryz.ntmps47
    go_wp2_with (go_at_call 73; refine (C.out _).mono ?_; rintro e w1 ⟨rfl, hS1⟩; obtain ⟨hc1, hf1, hz1, hb1⟩ := id hS1)
    refine bodyPost_ret (by simp only [results, Tryz.results47]; go_simp) rfl ⟨rfl, ?_⟩
    (repeat (first | with_reducible (exact Since.refl _) | with_reducible assumption | with_reducible (refine Since.drew ?_) | with_reducible (refine Since.drewN ?_ _) | with_reducible (refine Since.alloc ?_ _) | (with_reducible (refine Since.setCell ?_ ?_ _); rotate_left; focus (first | (simp; done) | (simp; omega) | omega)) | (with_reducible (refine Since.trans ?_ (by with_reducible assumption)))))

theorem D_one : Value.agg #[.int .u32 1, .int .u32 0, .int .u32 0, .int .u32 0, .int .u32 0, .int .u32 0, .int .u32 0, .int .u32 0] = D 1 := by
  unfold D dg B; simp only [Int.reducePow]; rfl
theorem D_zero : Value.agg #[.int .u32 0, .int .u32 0, .int .u32 0, .int .u32 0, .int .u32 0, .int .u32 0, .int .u32 0, .int .u32 0] = D 0 := by
  unfold D dg B; simp only [Int.reducePow]; rfl
theorem dg_comp (a : Int) (i : Nat) : 65535 - dg a i = dg (-1 - a) i := by
  have h1 := Int.mul_ediv_add_emod a (B i)
  have h2 := low_bd a i
  have hb := B_pos i
  have e : (-1 - a) / B i = -1 - a / B i := by
    have e1 : -1 - a = (B i - 1 - a % B i) + B i * (-1 - a / B i) := by rw [Int.mul_sub]; omega
    conv => lhs; rw [e1]
    rw [Int.add_mul_ediv_left _ _ (by omega), Int.ediv_eq_zero_of_lt (by omega) (by omega)]; omega
  unfold dg
  rw [e]; omega

theorem ref_neg (a : Int) (w : World) :
    Calls Tryz.prog 99 #[D a] w fun e w' => e = .returned (D (-a)) ∧ Since w w' := by
  have c := fun W' => ref_add (-1 - a) 1 W'
  rw [show -1 - a + 1 = -a by omega, ← D_one] at c
  have C := Lib.hid c; clear c
  go_enter Tryz.func99, Tryz.ntmps99
  go_wp2
  go_loopw [4] (fun i wr => ∃ k : Nat, k ≤ 8 ∧ i = .int .i64 k ∧ Since w wr ∧ Row wr w.heap.size 8 (fun j => .int .u32 (dg a j)) ∧ Row wr (w.heap.size + 1) 8 (fun j => .int .u32 0) ∧ Row wr (w.heap.size + 1 + 1) 8 (fun j => .int .u32 (upTo (dg (-1 - a)) k j))) (fun i _ => 8 - (intOf i).toNat)
  case atStart =>
    refine ⟨0, by omega, rfl, by (repeat (first | with_reducible (exact Since.refl _) | with_reducible assumption | with_reducible (refine Since.drew ?_) | with_reducible (refine Since.drewN ?_ _) | with_reducible (refine Since.alloc ?_ _) | (with_reducible (refine Since.setCell ?_ ?_ _); rotate_left; focus (first | (simp; done) | (simp; omega) | omega)) | (with_reducible (refine Since.trans ?_ (by with_reducible assumption))))), ?_, ?_, ?_⟩
    · exact ((row8 _ _ rfl _ (dg a)).alloc _).alloc _
    · exact (row8 _ _ (by simp) _ (fun _ => 0)).alloc _
    · exact (row8 _ _ (by simp) _ (fun _ => 0)).congr fun j hj => by simp [upTo]
  case round =>
    obtain ⟨k, hk, rfl, hS, hA, hB, hN⟩ := hrel
    obtain ⟨a1, a2⟩ := dg_bd a k
    obtain ⟨hA1, hA2, hA3⟩ := id hA; obtain ⟨hB1, hB2, hB3⟩ := id hB; obtain ⟨hN1, hN2, hN3⟩ := id hN
    by_cases hlt : k < 8
    · go_wp2
      refine ⟨⟨k + 1, by omega, by go_num, by (repeat (first | with_reducible (exact Since.refl _) | with_reducible assumption | with_reducible (refine Since.drew ?_) | with_reducible (refine Since.drewN ?_ _) | with_reducible (refine Since.alloc ?_ _) | (with_reducible (refine Since.setCell ?_ ?_ _); rotate_left; focus (first | (simp; done) | (simp; omega) | omega)) | (with_reducible (refine Since.trans ?_ (by with_reducible assumption))))), by (repeat (first | with_reducible assumption | with_reducible (refine Row.drewN ?_ _) | with_reducible (refine Row.drew ?_) | with_reducible (refine Row.alloc ?_ _) | (with_reducible (refine Row.far ?_ ?_ _ _); rotate_left; focus (first | (simp; done) | (simp; omega) | omega)) | with_reducible (refine Row.since ?_ (by with_reducible assumption)))), by (repeat (first | with_reducible assumption | with_reducible (refine Row.drewN ?_ _) | with_reducible (refine Row.drew ?_) | with_reducible (refine Row.alloc ?_ _) | (with_reducible (refine Row.far ?_ ?_ _ _); rotate_left; focus (first | (simp; done) | (simp; omega) | omega)) | with_reducible (refine Row.since ?_ (by with_reducible assumption)))), upTo_row hN _ (dg_comp a k)⟩, by simp [intOf]; omega⟩
    · obtain rfl : k = 8 := by omega
      have hu := fun j (hj : j < 8) => upTo_lt (f := dg (-1 - a)) hj
      go_wp2_with (go_at_call 48; refine (C.out _).mono ?_; rintro e w1 ⟨rfl, hS1⟩; obtain ⟨hc1, hf1, hz1, hb1⟩ := id hS1)
      refine bodyPost_ret (by simp only [results, Tryz.results99]; go_simp) rfl ⟨rfl, ?_⟩
      (repeat (first | with_reducible (exact Since.refl _) | with_reducible assumption | with_reducible (refine Since.drew ?_) | with_reducible (refine Since.drewN ?_ _) | with_reducible (refine Since.alloc ?_ _) | (with_reducible (refine Since.setCell ?_ ?_ _); rotate_left; focus (first | (simp; done) | (simp; omega) | omega)) | (with_reducible (refine Since.trans ?_ (by with_reducible assumption)))))

theorem ref_sub (a b : Int) (w : World) :
    Calls Tryz.prog 98 #[D a, D b] w fun e w' => e = .returned (D (a - b)) ∧ Since w w' := by
  rw [show a - b = a + -b by omega]
  go_enter Tryz.func98, Tryz.ntmps98
  go_wp2_with fail
  (refine wp_named fun wr1 hwr1 => ?_; go_region_held3 (fun w' => (∀ b o, b < (w.heap.size + 1 + 1) → w'.cell? ⟨b, o, none⟩ = wr1.cell? ⟨b, o, none⟩) ∧ (∀ b o, b < wr1.heap.size → w'.frozen? ⟨b, o, none⟩ = wr1.frozen? ⟨b, o, none⟩) ∧ (∀ k, k < wr1.heap.size → k < w'.heap.size) ∧ Below ((w.heap.size + 1 + 1)) wr1 w' ∧ (∀ o, o < 8 → w'.cell? ⟨(w.heap.size + 1 + 1), o, none⟩ = some (cellD w' ((w.heap.size + 1 + 1)) o))) ((subst hwr1; (repeat with_reducible (refine sr_set ?_ _ _)); first | assumption | (refine sr_step (by first | assumption | omega | (simp; done) | (simp; omega)) (by assumption) ?_; first | assumption | (repeat (first | with_reducible (exact Since.refl _) | with_reducible assumption | with_reducible (refine Since.drew ?_) | with_reducible (refine Since.drewN ?_ _) | with_reducible (refine Since.alloc ?_ _) | (with_reducible (refine Since.setCell ?_ ?_ _); rotate_left; focus (first | (simp; done) | (simp; omega) | omega))))) | (refine sr_step (by first | assumption | omega | (simp; done) | (simp; omega)) (sr_start (fun o ho => by (have ho' : o = 0 ∨ o = 1 ∨ o = 2 ∨ o = 3 ∨ o = 4 ∨ o = 5 ∨ o = 6 ∨ o = 7 := by omega); rcases ho' with rfl | rfl | rfl | rfl | rfl | rfl | rfl | rfl <;> (first | (simp [go_sem]; done) | simp_all))) ?_; first | assumption | (repeat (first | with_reducible (exact Since.refl _) | with_reducible assumption | with_reducible (refine Since.drew ?_) | with_reducible (refine Since.drewN ?_ _) | with_reducible (refine Since.alloc ?_ _) | (with_reducible (refine Since.setCell ?_ ?_ _); rotate_left; focus (first | (simp; done) | (simp; omega) | omega))))))) (first | (go_at_call 99; refine (ref_neg b _).mono ?_; rintro e w1 ⟨rfl, hS⟩; have hZ := hS.below.size; (try simp at hZ)) | (go_at_call 48; refine (ref_add a (-b) _).mono ?_; rintro e w1 ⟨rfl, hS⟩; have hZ := hS.below.size; (try simp at hZ))); all_goals (rename_i hHeld; obtain ⟨hcR1, hfR1, hzR1, hbR1, hoR1⟩ := hHeld; have hiR := fun o ho => there_of (hoR1 o ho); (try simp only [there_set] at hiR); clear hoR1; subst hwr1; have hR1 : Since w _ := sr_out hbR1 (by (repeat (first | with_reducible (exact Since.refl _) | with_reducible assumption | with_reducible (refine Since.drew ?_) | with_reducible (refine Since.drewN ?_ _) | with_reducible (refine Since.alloc ?_ _) | (with_reducible (refine Since.setCell ?_ ?_ _); rotate_left; focus (first | (simp; done) | (simp; omega) | omega)) | (with_reducible (refine Since.trans ?_ (by with_reducible assumption)))))) (by first | (simp; done) | (simp; omega) | omega)))
  go_wp2
  refine bodyPost_ret (by simp only [results, Tryz.results98]; go_simp) rfl ⟨rfl, ?_⟩
  (repeat (first | with_reducible (exact Since.refl _) | with_reducible assumption | with_reducible (refine Since.drew ?_) | with_reducible (refine Since.drewN ?_ _) | with_reducible (refine Since.alloc ?_ _) | (with_reducible (refine Since.setCell ?_ ?_ _); rotate_left; focus (first | (simp; done) | (simp; omega) | omega)) | (with_reducible (refine Since.trans ?_ (by with_reducible assumption)))))

theorem dg7 {a : Int} (ha : In128 a) : (32768 ≤ dg a 7) ↔ a < 0 := by
  unfold In128 at ha; unfold dg B; simp only [Int.reducePow]; omega
theorem D_inj {a b : Int} (ha : In128 a) (hb : In128 b) (h : ∀ i, i < 8 → dg a i = dg b i) : a = b := by
  have h0 := h 0 (by omega); have h1 := h 1 (by omega); have h2 := h 2 (by omega); have h3 := h 3 (by omega)
  have h4 := h 4 (by omega); have h5 := h 5 (by omega); have h6 := h 6 (by omega); have h7 := h 7 (by omega)
  unfold In128 at ha hb; unfold dg B at *; simp only [Int.reducePow] at *; omega

theorem ref_sign (a : Int) (ha : In128 a) (w : World) :
    Calls Tryz.prog 97 #[D a] w fun e w' => e = .returned (.int .i64 (signI a)) ∧ Since w w' := by
  rcases Int.lt_trichotomy a 0 with h | h | h
  · have E : signI a = -1 := by unfold signI cmpI; rw [if_pos h]
    rw [E]; clear E
    have h7 : decide (32768 ≤ dg a 7) = true := by simpa using (dg7 ha).2 h
    go_enter Tryz.func97, Tryz.ntmps97
    go_wp2
    go_ret
    exact ⟨rfl, by (repeat (first | with_reducible (exact Since.refl _) | with_reducible assumption | with_reducible (refine Since.drew ?_) | with_reducible (refine Since.drewN ?_ _) | with_reducible (refine Since.alloc ?_ _) | (with_reducible (refine Since.setCell ?_ ?_ _); rotate_left; focus (first | (simp; done) | (simp; omega) | omega)) | (with_reducible (refine Since.trans ?_ (by with_reducible assumption)))))⟩
  · subst h
    have E : signI 0 = 0 := rfl
    rw [E]; clear E
    rw [← D_zero]
    go_enter Tryz.func97, Tryz.ntmps97
    go_wp2
    go_ret
    exact ⟨rfl, by (repeat (first | with_reducible (exact Since.refl _) | with_reducible assumption | with_reducible (refine Since.drew ?_) | with_reducible (refine Since.drewN ?_ _) | with_reducible (refine Since.alloc ?_ _) | (with_reducible (refine Since.setCell ?_ ?_ _); rotate_left; focus (first | (simp; done) | (simp; omega) | omega)) | (with_reducible (refine Since.trans ?_ (by with_reducible assumption)))))⟩
  · have E : signI a = 1 := by unfold signI cmpI; rw [if_neg (by omega), if_pos h]
    rw [E]; clear E
    have h7 : decide (32768 ≤ dg a 7) = false := by have := dg7 ha; simp; omega
    have h8 : (dg a 0 == 0 && (dg a 1 == 0 && (dg a 2 == 0 && (dg a 3 == 0 && (dg a 4 == 0 && (dg a 5 == 0 && (dg a 6 == 0 && dg a 7 == 0))))))) = false := by
      rw [Bool.eq_false_iff]
      intro hx
      simp only [Bool.and_eq_true, beq_iff_eq] at hx
      obtain ⟨x0, x1, x2, x3, x4, x5, x6, x7⟩ := hx
      have : a = 0 := D_inj ha (by unfold In128; omega) (fun i hi => by
        have hz : dg 0 i = 0 := by unfold dg; simp
        rw [hz]
        have hh : i = 0 ∨ i = 1 ∨ i = 2 ∨ i = 3 ∨ i = 4 ∨ i = 5 ∨ i = 6 ∨ i = 7 := by omega
        rcases hh with rfl | rfl | rfl | rfl | rfl | rfl | rfl | rfl <;> assumption)
      omega
    go_enter Tryz.func97, Tryz.ntmps97
    go_wp2
    go_ret
    exact ⟨rfl, by (repeat (first | with_reducible (exact Since.refl _) | with_reducible assumption | with_reducible (refine Since.drew ?_) | with_reducible (refine Since.drewN ?_ _) | with_reducible (refine Since.alloc ?_ _) | (with_reducible (refine Since.setCell ?_ ?_ _); rotate_left; focus (first | (simp; done) | (simp; omega) | omega)) | (with_reducible (refine Since.trans ?_ (by with_reducible assumption)))))⟩

theorem pos_of {a : Int} (ha : In128 a) : decide (32768 ≤ dg a 7) = decide (a < 0) := by rw [decide_eq_decide]; exact dg7 ha
theorem part_of (a : Int) (j : Nat) : a / B j = a / B (j + 1) * 65536 + dg a j := by rw [← div_B]; unfold dg; omega
theorem lt_of_part {a b : Int} {j : Nat} (h : a / B j < b / B j) : a < b := by
  rcases Int.lt_or_le a b with h1 | h1
  · exact h1
  · have := Int.ediv_le_ediv (B_pos j) h1; omega
theorem top_of {a b : Int} (ha : In128 a) (hb : In128 b) (h : decide (a < 0) = decide (b < 0)) : a / B 8 = b / B 8 := by
  rw [decide_eq_decide] at h
  unfold In128 at ha hb; unfold B; simp only [Int.reducePow]; omega

end Go.Proofs.YtckochcocflleaaGreat

/-
  The document's numbers of eight digits, walked: a bit; one more bit; products.
-/
namespace Go.Proofs.YtckochcocflleaaGreat
open Go.RowKit
set_option linter.unusedVariables false

theorem B_two (q : Nat) : B q = 2 ^ (16 * q) := by unfold B; rw [Int.pow_mul]; rfl
theorem B_add (a b : Nat) : B (a + b) = B a * B b := Int.pow_add 65536 a b
/-- A bit of a digit is a bit of the number. -/
theorem bit_dg (n : Int) (k : Nat) : dg n (k / 16) / 2 ^ (k % 16) % 2 = n / 2 ^ k % 2 := by
  have e : (2 : Int) ^ k = B (k / 16) * 2 ^ (k % 16) := by rw [B_two, ← Int.pow_add, show 16 * (k / 16) + k % 16 = k by omega]
  have hr : k % 16 < 16 := Nat.mod_lt _ (by omega)
  rw [e, ← Int.ediv_ediv_of_nonneg (Int.le_of_lt (B_pos _))]
  unfold dg
  generalize n / B (k / 16) = x
  generalize k % 16 = r at *
  have h : r = 0 ∨ r = 1 ∨ r = 2 ∨ r = 3 ∨ r = 4 ∨ r = 5 ∨ r = 6 ∨ r = 7 ∨ r = 8 ∨ r = 9 ∨ r = 10 ∨ r = 11 ∨ r = 12 ∨ r = 13 ∨ r = 14 ∨ r = 15 := by omega
  rcases h with rfl | rfl | rfl | rfl | rfl | rfl | rfl | rfl | rfl | rfl | rfl | rfl | rfl | rfl | rfl | rfl <;> simp only [Int.reducePow] <;> omega
theorem two_r (k : Nat) : 1 ≤ (2 : Int) ^ (k % 16) ∧ (2 : Int) ^ (k % 16) ≤ 32768 := by
  have hr : k % 16 < 16 := Nat.mod_lt _ (by omega)
  generalize k % 16 = r at *
  have h : r = 0 ∨ r = 1 ∨ r = 2 ∨ r = 3 ∨ r = 4 ∨ r = 5 ∨ r = 6 ∨ r = 7 ∨ r = 8 ∨ r = 9 ∨ r = 10 ∨ r = 11 ∨ r = 12 ∨ r = 13 ∨ r = 14 ∨ r = 15 := by omega
  rcases h with rfl | rfl | rfl | rfl | rfl | rfl | rfl | rfl | rfl | rfl | rfl | rfl | rfl | rfl | rfl | rfl <;> simp
theorem room_dg {x : Int} {r : Nat} (hr : r < 16) (h0 : 0 ≤ x) (h1 : x < 65536) (hb : x / 2 ^ r % 2 = 0) : x + 2 ^ r < 65536 := by
  have h : r = 0 ∨ r = 1 ∨ r = 2 ∨ r = 3 ∨ r = 4 ∨ r = 5 ∨ r = 6 ∨ r = 7 ∨ r = 8 ∨ r = 9 ∨ r = 10 ∨ r = 11 ∨ r = 12 ∨ r = 13 ∨ r = 14 ∨ r = 15 := by omega
  rcases h with rfl | rfl | rfl | rfl | rfl | rfl | rfl | rfl | rfl | rfl | rfl | rfl | rfl | rfl | rfl | rfl <;> simp only [Int.reducePow] at * <;> omega
/-- A digit is put in another's place. -/
theorem dg_put (n v : Int) (p j : Nat) (v0 : 0 ≤ v) (v1 : v < 65536) : dg (n + (v - dg n p) * B p) j = if j = p then v else dg n j := by
  rcases Nat.lt_trichotomy j p with h | h | h
  · rw [if_neg (by omega)]
    obtain ⟨m, rfl⟩ : ∃ m, p = j + (m + 1) := ⟨p - j - 1, by omega⟩
    generalize dg n (j + (m + 1)) = x
    have e : (v - x) * B (j + (m + 1)) = B j * ((v - x) * B m * 65536) := by
      rw [B_add, B_succ]
      rw [show (v - x) * (B j * (B m * 65536)) = B j * ((v - x) * (B m * 65536)) from Int.mul_left_comm _ _ _, Int.mul_assoc]
    unfold dg
    rw [e, Int.add_mul_ediv_left _ _ (Int.ne_of_gt (B_pos j))]
    generalize (v - x) * B m = y
    omega
  · subst h
    rw [if_pos rfl]
    have b := dg_bd n j
    unfold dg at *
    rw [Int.add_mul_ediv_right _ _ (Int.ne_of_gt (B_pos j))]
    omega
  · rw [if_neg (by omega)]
    obtain ⟨m, rfl⟩ : ∃ m, j = (p + 1) + m := ⟨j - p - 1, by omega⟩
    have e : ∀ x : Int, x / B (p + 1 + m) = x / B p / 65536 / B m := fun x => by
      rw [B_add, B_succ, ← Int.ediv_ediv_of_nonneg (by have := B_pos p; omega), ← Int.ediv_ediv_of_nonneg (Int.le_of_lt (B_pos p))]
    have b := dg_bd n p
    unfold dg at *
    rw [e, e, Int.add_mul_ediv_right _ _ (Int.ne_of_gt (B_pos p))]
    generalize n / B p = x at *
    rw [show (x + (v - x % 65536)) / 65536 = x / 65536 by omega]

theorem ref_bit (n : Int) (k : Nat) (hk : k < 128) (w : World) :
    Calls Tryz.prog 100 #[D n, .int .i64 k] w fun e w' => e = .returned (.int .u32 (n / 2 ^ k % 2)) ∧ Since w w' := by
  have hb := Lib.hid (bit_dg n k)
  obtain ⟨t0, t1⟩ := two_r k
  have hr : k % 16 < 16 := Nat.mod_lt _ (by omega)
  have hq : k / 16 < 8 := by omega
  obtain ⟨d0, d1⟩ := dg_bd n (k / 16)
  obtain ⟨hA1, hA2, hA3⟩ := row8 w _ rfl 62 (dg n)
  have hd : 0 ≤ dg n (k / 16) / 2 ^ (k % 16) := Int.ediv_nonneg d0 (by omega)
  go_enter Tryz.func100, Tryz.ntmps100
  go_wp2
  go_ret
  exact ⟨by rw [← hb.out]; rfl, by (repeat (first | with_reducible (exact Since.refl _) | with_reducible assumption | with_reducible (refine Since.drew ?_) | with_reducible (refine Since.drewN ?_ _) | with_reducible (refine Since.alloc ?_ _) | (with_reducible (refine Since.setCell ?_ ?_ _); rotate_left; focus (first | (simp; done) | (simp; omega) | omega)) | (with_reducible (refine Since.trans ?_ (by with_reducible assumption)))))⟩

theorem with_dg {n : Int} {k : Nat} (h0 : n / 2 ^ k % 2 = 0) (j : Nat) : (if j = k / 16 then dg n (k / 16) + 2 ^ (k % 16) else dg n j) = dg (n + 2 ^ k) j := by
  have hr : k % 16 < 16 := Nat.mod_lt _ (by omega)
  obtain ⟨d0, d1⟩ := dg_bd n (k / 16)
  obtain ⟨t0, t1⟩ := two_r k
  have hroom := room_dg hr d0 d1 (by rw [bit_dg]; exact h0)
  have e : (2 : Int) ^ k = (dg n (k / 16) + 2 ^ (k % 16) - dg n (k / 16)) * B (k / 16) := by
    rw [show dg n (k / 16) + 2 ^ (k % 16) - dg n (k / 16) = 2 ^ (k % 16) by omega, B_two, ← Int.pow_add, show k % 16 + 16 * (k / 16) = k by omega]
  have := dg_put n (dg n (k / 16) + 2 ^ (k % 16)) (k / 16) j (by omega) hroom
  rw [← e] at this
  rw [this]

theorem ref_with (n : Int) (k : Nat) (hk : k < 128) (h0 : n / 2 ^ k % 2 = 0) (w : World) :
    Calls Tryz.prog 101 #[D n, .int .i64 k] w fun e w' => e = .returned (D (n + 2 ^ k)) ∧ Since w w' := by
  have hw := fun j => with_dg h0 j
  have hr : k % 16 < 16 := Nat.mod_lt _ (by omega)
  have hq : k / 16 < 8 := by omega
  obtain ⟨d0, d1⟩ := dg_bd n (k / 16)
  obtain ⟨t0, t1⟩ := two_r k
  have hroom := room_dg hr d0 d1 (by rw [bit_dg]; exact h0)
  have HW := Lib.hid hw
  clear hw h0
  go_enter Tryz.func101, Tryz.ntmps101
  go_upto_region 1 with fail
  refine wp_named fun w0 hw0 => ?_
  have hA : Row w0 w.heap.size 8 (fun j => .int .u32 (dg n j)) := by subst hw0; exact (row8 w _ rfl _ (dg n)).alloc _
  have hC : Row w0 (w.heap.size + 1) 8 (fun _ => .int .u32 0) := by subst hw0; exact row8 _ _ (by simp) _ (fun _ => 0)
  have hS : Since w w0 := by subst hw0; (repeat (first | with_reducible (exact Since.refl _) | with_reducible assumption | with_reducible (refine Since.drew ?_) | with_reducible (refine Since.drewN ?_ _) | with_reducible (refine Since.alloc ?_ _) | (with_reducible (refine Since.setCell ?_ ?_ _); rotate_left; focus (first | (simp; done) | (simp; omega) | omega)) | (with_reducible (refine Since.trans ?_ (by with_reducible assumption)))))
  clear hw0
  obtain ⟨hA1, hA2, hA3⟩ := id hA; obtain ⟨hC1, hC2, hC3⟩ := id hC
  go_upto_region 2 with fail
  refine wp_named fun w1 hw1 => ?_
  have hA' : Row w1 w.heap.size 8 (fun j => .int .u32 (dg (n + 2 ^ k) j)) := by
    subst hw1
    refine (hA.set _ _).congr fun j hj => ?_
    rw [← HW.out j]
    split <;> rfl
  have hC' : Row w1 (w.heap.size + 1) 8 (fun _ => .int .u32 0) := by subst hw1; (repeat (first | with_reducible assumption | with_reducible (refine Row.drewN ?_ _) | with_reducible (refine Row.drew ?_) | with_reducible (refine Row.alloc ?_ _) | (with_reducible (refine Row.far ?_ ?_ _ _); rotate_left; focus (first | (simp; done) | (simp; omega) | omega)) | with_reducible (refine Row.since ?_ (by with_reducible assumption))))
  have hS' : Since w w1 := by subst hw1; (repeat (first | with_reducible (exact Since.refl _) | with_reducible assumption | with_reducible (refine Since.drew ?_) | with_reducible (refine Since.drewN ?_ _) | with_reducible (refine Since.alloc ?_ _) | (with_reducible (refine Since.setCell ?_ ?_ _); rotate_left; focus (first | (simp; done) | (simp; omega) | omega)) | (with_reducible (refine Since.trans ?_ (by with_reducible assumption)))))
  clear hw1 hA1 hA2 hA3 hC1 hC2 hC3 hA hC hS
  obtain ⟨hA1, hA2, hA3⟩ := id hA'; obtain ⟨hC1, hC2, hC3⟩ := id hC'
  go_wp2
  refine bodyPost_ret (by simp only [results, Tryz.results101]; go_simp) rfl ⟨rfl, ?_⟩
  (repeat (first | with_reducible (exact Since.refl _) | with_reducible assumption | with_reducible (refine Since.drew ?_) | with_reducible (refine Since.drewN ?_ _) | with_reducible (refine Since.alloc ?_ _) | (with_reducible (refine Since.setCell ?_ ?_ _); rotate_left; focus (first | (simp; done) | (simp; omega) | omega)) | (with_reducible (refine Since.trans ?_ (by with_reducible assumption)))))
end Go.Proofs.YtckochcocflleaaGreat
