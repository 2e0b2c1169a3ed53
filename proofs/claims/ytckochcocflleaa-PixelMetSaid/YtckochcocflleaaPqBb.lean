/-
  Texts of this seat, put together: each with its own head.
-/
import Derived.Test.YtckochcocflleaaPqBa
import Derived.Deep.MidRow
import Derived.Laws.ComplexArith
import Derived.Laws.StructEq
import Derived.Sort.Grow
import Derived.Maps.Own

/-
  A region that stores into one own block while all else stays ('sx_'); rows of one and of two whole numbers.
-/
namespace Go.Proofs.Ytckochcocflleaa
open Go.RowKit
set_option linter.unusedVariables false

theorem sx_start {r m : Nat} {w w0 : World} (hS : Since w w0) (h : ∀ o, o < m → (w0.cell? ⟨r, o, none⟩).isSome = true) : (∀ b o, b < w0.heap.size → b ≠ r → w0.cell? ⟨b, o, none⟩ = w0.cell? ⟨b, o, none⟩) ∧ (∀ b o, b < w0.heap.size → w0.frozen? ⟨b, o, none⟩ = w0.frozen? ⟨b, o, none⟩) ∧ (∀ k, k < w0.heap.size → k < w0.heap.size) ∧ Since w w0 ∧ (∀ o, o < m → w0.cell? ⟨r, o, none⟩ = some (cellD w0 r o)) :=
  ⟨fun _ _ _ _ => rfl, fun _ _ _ => rfl, fun _ h => h, hS, fun o ho => cellD_of (h o ho)⟩
theorem sx_step {r m : Nat} {w w0 w1 w2 : World} (hr : r < w0.heap.size) (h : (∀ b o, b < w0.heap.size → b ≠ r → w1.cell? ⟨b, o, none⟩ = w0.cell? ⟨b, o, none⟩) ∧ (∀ b o, b < w0.heap.size → w1.frozen? ⟨b, o, none⟩ = w0.frozen? ⟨b, o, none⟩) ∧ (∀ k, k < w0.heap.size → k < w1.heap.size) ∧ Since w w1 ∧ (∀ o, o < m → w1.cell? ⟨r, o, none⟩ = some (cellD w1 r o))) (k : Since w1 w2) :
    (∀ b o, b < w0.heap.size → b ≠ r → w2.cell? ⟨b, o, none⟩ = w0.cell? ⟨b, o, none⟩) ∧ (∀ b o, b < w0.heap.size → w2.frozen? ⟨b, o, none⟩ = w0.frozen? ⟨b, o, none⟩) ∧ (∀ k, k < w0.heap.size → k < w2.heap.size) ∧ Since w w2 ∧ (∀ o, o < m → w2.cell? ⟨r, o, none⟩ = some (cellD w2 r o)) := by
  obtain ⟨h1, h2, h3, h4, h5⟩ := h
  exact ⟨fun b o hb hne => (k.1 b o (h3 b hb)).trans (h1 b o hb hne), fun b o hb => (k.2.1 b o (h3 b hb)).trans (h2 b o hb), fun j hj => k.2.2.1 j (h3 j hj), h4.trans k, fun o ho => cellD_of (by rw [k.1 r o (h3 r hr), h5 o ho]; rfl)⟩
theorem sx_set {r m : Nat} {w w0 w1 : World} (hr : w.heap.size ≤ r) (h : (∀ b o, b < w0.heap.size → b ≠ r → w1.cell? ⟨b, o, none⟩ = w0.cell? ⟨b, o, none⟩) ∧ (∀ b o, b < w0.heap.size → w1.frozen? ⟨b, o, none⟩ = w0.frozen? ⟨b, o, none⟩) ∧ (∀ k, k < w0.heap.size → k < w1.heap.size) ∧ Since w w1 ∧ (∀ o, o < m → w1.cell? ⟨r, o, none⟩ = some (cellD w1 r o))) (j : Nat) (v : Value) :
    (∀ b o, b < w0.heap.size → b ≠ r → (w1.setCell ⟨r, j, none⟩ v).cell? ⟨b, o, none⟩ = w0.cell? ⟨b, o, none⟩) ∧ (∀ b o, b < w0.heap.size → (w1.setCell ⟨r, j, none⟩ v).frozen? ⟨b, o, none⟩ = w0.frozen? ⟨b, o, none⟩) ∧ (∀ k, k < w0.heap.size → k < (w1.setCell ⟨r, j, none⟩ v).heap.size) ∧ Since w (w1.setCell ⟨r, j, none⟩ v) ∧ (∀ o, o < m → (w1.setCell ⟨r, j, none⟩ v).cell? ⟨r, o, none⟩ = some (cellD (w1.setCell ⟨r, j, none⟩ v) r o)) := by
  obtain ⟨h1, h2, h3, h4, h5⟩ := h
  refine ⟨fun b o hb hne => ?_, fun b o hb => (World.frozen?_setCell _ _ _ _).trans (h2 b o hb), fun k hk => by simpa [World.setCell] using h3 k hk, h4.setCell hr _, fun o ho => ?_⟩
  · rw [cell_set, if_neg (by omega)]; exact h1 b o hb hne
  · refine cellD_of ?_
    rw [cell_set, h5 o ho]
    split <;> rfl

def Pf (x y : Int) (j : Nat) : Value := if j = 0 then .int .i64 x else .int .i64 y
theorem prow (w : World) (b : Nat) (hb : b = w.heap.size) (t : TypeId) (x y : Int) : Row (w.alloc (.cells #[.int .i64 x, .int .i64 y] t)) b 2 (Pf x y) := by
  subst hb
  refine Row.of_cells fun j hj => ?_
  have h : j = 0 ∨ j = 1 := by omega
  rcases h with rfl | rfl <;> rfl
theorem pput {w : World} {b : Nat} {u v : Int} (h : Row w b 2 (Pf u v)) (x y : Int) : Row ((w.setCell ⟨b, 0, none⟩ (.int .i64 x)).setCell ⟨b, 1, none⟩ (.int .i64 y)) b 2 (Pf x y) := by
  refine ((h.set 0 _).set 1 _).congr fun j hj => ?_
  have hh : j = 0 ∨ j = 1 := by omega
  rcases hh with rfl | rfl <;> rfl
theorem pcells {w : World} {b : Nat} {x y : Int} (h : Row w b 2 (Pf x y)) : w.cell? ⟨b, 0, none⟩ = some (.int .i64 x) ∧ w.cell? ⟨b, 1, none⟩ = some (.int .i64 y) ∧ b < w.heap.size := ⟨h.1 0 (by omega), h.1 1 (by omega), h.2.2⟩
theorem pput0 {w : World} {b : Nat} (h : Row w b 2 (Pf 0 0)) (x y : Int) : Row ((w.setCell ⟨b, 0, none⟩ (.int .i64 x)).setCell ⟨b, 1, none⟩ (.int .i64 y)) b 2 (Pf x y) := pput h x y
def Of (v : Value) (_ : Nat) : Value := v
theorem orow (w : World) (b : Nat) (hb : b = w.heap.size) (t : TypeId) (v : Value) : Row (w.alloc (.cells #[v] t)) b 1 (Of v) := by
  subst hb
  refine Row.of_cells fun j hj => ?_
  obtain rfl : j = 0 := by omega
  rfl
theorem oput {w : World} {b : Nat} {u : Value} (h : Row w b 1 (Of u)) (v : Value) : Row (w.setCell ⟨b, 0, none⟩ v) b 1 (Of v) := by
  refine (h.set 0 _).congr fun j hj => ?_
  obtain rfl : j = 0 := by omega
  rfl
theorem oput0 {w : World} {b : Nat} (h : Row w b 1 (Of (.int .i64 0))) (v : Value) : Row (w.setCell ⟨b, 0, none⟩ v) b 1 (Of v) := oput h v
theorem ocell {w : World} {b : Nat} {v : Value} (h : Row w b 1 (Of v)) : w.cell? ⟨b, 0, none⟩ = some v ∧ b < w.heap.size := ⟨h.1 0 (by omega), h.2.2⟩
/-- A row's cells as a range. -/
theorem row_range {w : World} {b n : Nat} {f : Nat → Value} (h : Row w b n f) (cs : List Value) (he : ∀ j v, cs[j]? = some v → j < n ∧ v = f j) : w.rangeAt b 0 cs := fun j v hv => by
  obtain ⟨h1, rfl⟩ := he j v hv
  rw [Nat.zero_add]
  exact h.1 j h1
section
variable {P : Program} {fn : Func} {R : Ending → World → Prop} {a : Act} {w : World}
/-- The end of a function whose one result is a struct in memory. -/
theorem ret_agg {p ty : Nat} {b : Nat} {cs : List Value} {d : TypeDesc} (hf : fn.results = #[.cell p ty]) (hp : a.tmps.getD p undef = .pointer (some ⟨b, 0, none⟩)) (hc : w.rangeAt b 0 cs)
    (hu : P.underlying ty = some d) (hd : d.isRow = true) (hi : (P.info? ty).map (·.size) = some cs.length) (hdf : a.defers = []) (hR : R (.returned (.agg cs.toArray)) w) : bodyPost P fn R .ret a w := by
  refine bodyPost_ret (v := .agg cs.toArray) ?_ hdf hR
  simp only [results, hf]
  have hl := run_loadVar_mid (P := P) w b 0 ty cs d hc hu hd hi
  have hp' : a.tmps[p]?.getD undef = .pointer (some ⟨b, 0, none⟩) := by simpa using hp
  simp [hp', asAddr, hl]
/-- .. and a number behind it. -/
theorem ret_agg_tmp {p q ty : Nat} {b : Nat} {cs : List Value} {d : TypeDesc} {x : Value} (hf : fn.results = #[.cell p ty, .tmp q]) (hp : a.tmps.getD p undef = .pointer (some ⟨b, 0, none⟩)) (hc : w.rangeAt b 0 cs)
    (hu : P.underlying ty = some d) (hd : d.isRow = true) (hi : (P.info? ty).map (·.size) = some cs.length) (hq : a.tmps.getD q undef = x) (hdf : a.defers = []) (hR : R (.returned (.tuple #[.agg cs.toArray, x])) w) : bodyPost P fn R .ret a w := by
  refine bodyPost_ret (v := .tuple #[.agg cs.toArray, x]) ?_ hdf hR
  simp only [results, hf]
  have hl := run_loadVar_mid (P := P) w b 0 ty cs d hc hu hd hi
  have hp' : a.tmps[p]?.getD undef = .pointer (some ⟨b, 0, none⟩) := by simpa using hp
  have hq' : a.tmps[q]?.getD undef = x := by simpa using hq
  simp [hp', asAddr, hl, hq']
end
end Go.Proofs.Ytckochcocflleaa

/-
  Whole numbers below 2^53 as float64: the words, and that sums, differences and products of them are exact.
-/
namespace Go.Proofs.Ytckochcocflleaa
open Ieee

/-- A number with a sign, a magnitude and a place is n (its sign told by neg, also of nought). -/
def ValueIs (m : Nat) (p : Int) (n : Nat) : Prop := (0 ≤ p ∧ n = m * 2 ^ p.toNat) ∨ (p < 0 ∧ m = n * 2 ^ (-p).toNat)

theorem log2_mul_pow (n k : Nat) (h : n ≠ 0) : (n * 2 ^ k).log2 = n.log2 + k := by
  induction k with
  | zero => simp
  | succ k ih =>
    rw [Nat.pow_succ, ← Nat.mul_assoc, Nat.mul_comm (n * 2 ^ k) 2, Nat.log2_two_mul (by have := Nat.pos_of_ne_zero h; have := Nat.two_pow_pos k; exact Nat.ne_of_gt (Nat.mul_pos ‹_› ‹_›)), ih]
    omega
/-- What is kept of a number that fits. -/
theorem cut_exact (neg : Bool) (x drop : Nat) (h : drop ≤ (x * 2 ^ drop).log2 + 2) : Toward.even.cut neg (x * 2 ^ drop) drop = x := by
  unfold Toward.cut
  rw [Nat.min_eq_left h]
  have hp := Nat.two_pow_pos drop
  have hgap : 1 <<< drop = 2 ^ drop := by rw [Nat.shiftLeft_eq, Nat.one_mul]
  have h1 : x * 2 ^ drop / 2 ^ drop = x := Nat.mul_div_cancel _ hp
  have h2 : x * 2 ^ drop % 2 ^ drop = 0 := Nat.mul_mod_left _ _
  simp only [hgap, h1, h2]
  have h3 : ¬ (2 ^ drop < 2 * 0) := by omega
  have h4 : (2 ^ drop == 2 * 0) = false := by simp
  simp [h4]
theorem least_double : double.leastPlace = -1074 := by decide
theorem frac_double : double.fractionBits = 52 := rfl
theorem binade_double : double.binade = 2 ^ 52 := rfl
theorem inf_double : double.infRung = 2047 * 2 ^ 52 := by decide
theorem sign_double : double.signWeight = 2 ^ 63 := rfl
/-- The rung of a whole number. -/
def rungOf (n : Nat) : Nat := (1022 + n.log2) * 2 ^ 52 + n * 2 ^ (52 - n.log2)
theorem sig_range {n : Nat} (h0 : n ≠ 0) (h : n < 2 ^ 53) : 2 ^ 52 ≤ n * 2 ^ (52 - n.log2) ∧ n * 2 ^ (52 - n.log2) < 2 ^ 53 ∧ n.log2 ≤ 52 := by
  have hl : n.log2 ≤ 52 := by
    have := (Nat.log2_lt h0).2 h
    omega
  have h1 := Nat.log2_self_le h0
  have h2 := Nat.lt_log2_self (n := n)
  have hp := Nat.two_pow_pos (52 - n.log2)
  refine ⟨?_, ?_, hl⟩
  · calc 2 ^ 52 = 2 ^ n.log2 * 2 ^ (52 - n.log2) := by rw [← Nat.pow_add]; congr 1; omega
      _ ≤ n * 2 ^ (52 - n.log2) := Nat.mul_le_mul_right _ h1
  · calc n * 2 ^ (52 - n.log2) < 2 ^ (n.log2 + 1) * 2 ^ (52 - n.log2) := Nat.mul_lt_mul_of_pos_right h2 hp
      _ = 2 ^ 53 := by rw [← Nat.pow_add]; congr 1; omega
theorem fit_rung (Q L S : Nat) (hl : L ≤ 52) (hs : S < 2 * Q) : (1022 + L) * Q + S ≤ 2047 * Q := by
  have : (1022 + L) * Q ≤ 1074 * Q := Nat.mul_le_mul_right _ (by omega)
  omega
set_option maxRecDepth 100000 in
/-- A number's word hangs on its value alone. -/
theorem nearest_whole (neg : Bool) (m : Nat) (p : Int) (n : Nat) (h0 : n ≠ 0) (hn : n < 2 ^ 53) (h : ValueIs m p n) : double.nearest neg m p = double.word neg (rungOf n) := by
  obtain ⟨s1, s2, hl⟩ := sig_range h0 hn
  have hm : m ≠ 0 := by
    rintro rfl
    rcases h with ⟨_, h⟩ | ⟨_, h⟩
    · simp at h; exact h0 h
    · have := Nat.mul_pos (Nat.pos_of_ne_zero h0) (Nat.two_pow_pos (-p).toNat); omega
  have hlog : (m.log2 : Int) + p = n.log2 := by
    rcases h with ⟨hp, h⟩ | ⟨hp, h⟩
    · rw [h, log2_mul_pow _ _ hm]; omega
    · rw [h, log2_mul_pow _ _ h0]; omega
  unfold Format.nearest
  rw [if_neg hm]
  have hlast : max (p + m.log2 - double.fractionBits) double.leastPlace = (n.log2 : Int) - 52 := by
    rw [least_double, frac_double]; omega
  simp only [hlast]
  have hkept : Toward.even.cut neg (m <<< (p - ((n.log2 : Int) - 52)).toNat) (((n.log2 : Int) - 52) - p).toNat = n * 2 ^ (52 - n.log2) := by
    generalize n.log2 = L at hl hlog ⊢
    by_cases hc : (L : Int) - 52 ≤ p
    · have e1 : (((L : Int) - 52) - p).toNat = 0 := by omega
      rw [e1]
      have := cut_exact neg (m <<< (p - ((L : Int) - 52)).toNat) 0 (by omega)
      rw [Nat.pow_zero, Nat.mul_one] at this
      rw [this, Nat.shiftLeft_eq]
      rcases h with ⟨hp, h⟩ | ⟨hp, h⟩
      · rw [h, Nat.mul_assoc, ← Nat.pow_add]
        congr 2; omega
      · rw [h, Nat.mul_assoc, ← Nat.pow_add]
        congr 2; omega
    · have e1 : (p - ((L : Int) - 52)).toNat = 0 := by omega
      rw [e1, Nat.shiftLeft_eq, Nat.pow_zero, Nat.mul_one]
      rcases h with ⟨hp, h⟩ | ⟨hp, h⟩
      · omega
      · have e2 : m = n * 2 ^ (52 - L) * 2 ^ (((L : Int) - 52) - p).toNat := by
          rw [h, Nat.mul_assoc, ← Nat.pow_add]
          congr 2; omega
        rw [e2]
        refine cut_exact neg _ _ ?_
        rw [← e2]
        omega
  rw [hkept, least_double, binade_double, inf_double]
  have e3 : ((n.log2 : Int) - 52 - -1074).toNat = 1022 + n.log2 := by omega
  rw [e3]
  unfold rungOf
  rw [Nat.min_eq_left (fit_rung (2 ^ 52) n.log2 _ hl (Nat.lt_of_lt_of_eq s2 rfl))]
set_option maxRecDepth 100000 in
/-- What such a word stands for. -/
theorem read_whole (neg : Bool) (n : Nat) (h0 : n ≠ 0) (hn : n < 2 ^ 53) : double.read (double.word neg (rungOf n)) = .number neg (n * 2 ^ (52 - n.log2)) ((n.log2 : Int) - 52) := by
  obtain ⟨s1, s2, hl⟩ := sig_range h0 hn
  have hr1 : rungOf n = (1023 + n.log2) * 2 ^ 52 + (n * 2 ^ (52 - n.log2) - 2 ^ 52) := by unfold rungOf; omega
  have hlow : n * 2 ^ (52 - n.log2) - 2 ^ 52 < 2 ^ 52 := by omega
  have hr2 : rungOf n < 2 ^ 63 := by
    rw [hr1]
    have : (1023 + n.log2) * 2 ^ 52 ≤ 1075 * 2 ^ 52 := Nat.mul_le_mul_right _ (by omega)
    omega
  have hneg : (double.word neg (rungOf n) / 2 ^ 63 % 2 == 1) = neg := by
    unfold Format.word
    rw [sign_double]
    cases neg
    · simp only [Bool.false_eq_true, if_false]
      rw [Nat.div_eq_of_lt hr2]; rfl
    · simp only [if_true]
      rw [Nat.add_div_left _ (by decide), Nat.div_eq_of_lt hr2]; rfl
  have hmod : double.word neg (rungOf n) % 2 ^ 63 = rungOf n := by
    unfold Format.word
    rw [sign_double]
    cases neg
    · simp only [Bool.false_eq_true, if_false]; exact Nat.mod_eq_of_lt hr2
    · simp only [if_true]; rw [Nat.add_mod_left]; exact Nat.mod_eq_of_lt hr2
  unfold Format.read
  rw [sign_double, hneg, hmod, binade_double, inf_double, least_double]
  have hd : rungOf n / 2 ^ 52 = 1023 + n.log2 := by rw [hr1, Nat.mul_comm, Nat.mul_add_div (by decide), Nat.div_eq_of_lt hlow]; rfl
  have hmd : rungOf n % 2 ^ 52 = n * 2 ^ (52 - n.log2) - 2 ^ 52 := by rw [hr1, Nat.mul_comm, Nat.mul_add_mod, Nat.mod_eq_of_lt hlow]
  have hge : ¬ rungOf n < 2 ^ 52 := by
    have : 1 * 2 ^ 52 ≤ (1023 + n.log2) * 2 ^ 52 := Nat.mul_le_mul_right _ (by omega)
    omega
  have hlt : rungOf n < 2047 * 2 ^ 52 := by
    have : (1023 + n.log2) * 2 ^ 52 ≤ 1075 * 2 ^ 52 := Nat.mul_le_mul_right _ (by omega)
    omega
  have e1 : 2 ^ 52 + (n * 2 ^ (52 - n.log2) - 2 ^ 52) = n * 2 ^ (52 - n.log2) := Nat.add_sub_of_le s1
  have e2 : (-1074 : Int) + ((1023 + n.log2 - 1 : Nat) : Int) = (n.log2 : Int) - 52 := by omega
  simp only [if_neg hge, if_pos hlt, hd, hmd, e1, e2]
theorem read_zero (neg : Bool) : double.read (double.word neg 0) = .number neg 0 (-1074) := by cases neg <;> decide
theorem nearest_zero (neg : Bool) (p : Int) : double.nearest neg 0 p = double.word neg 0 := by unfold Format.nearest; rw [if_pos rfl]
/-- A magnitude with its sign. -/
def sg (s : Bool) (m : Nat) : Int := if s then -(m : Int) else m
theorem sg_abs (s : Bool) (m : Nat) : (sg s m).natAbs = m := by unfold sg; split <;> omega
/-- Sign, magnitude and place are the whole number n. -/
def Is (s : Bool) (m : Nat) (p : Int) (n : Int) : Prop := ∃ k : Nat, 0 ≤ p + k ∧ sg s m * 2 ^ (p + k).toNat = n * 2 ^ k
theorem Is.more {s : Bool} {m : Nat} {p n : Int} {k : Nat} (h0 : 0 ≤ p + k) (h : sg s m * 2 ^ (p + k).toNat = n * 2 ^ k) (j : Nat) : 0 ≤ p + (k + j : Nat) ∧ sg s m * 2 ^ (p + (k + j : Nat)).toNat = n * 2 ^ (k + j) := by
  refine ⟨by omega, ?_⟩
  rw [show (p + (k + j : Nat)).toNat = (p + k).toNat + j by omega, Int.pow_add, Int.pow_add, ← Int.mul_assoc, h, Int.mul_assoc]
theorem Is.abs {s : Bool} {m : Nat} {p n : Int} (h : Is s m p n) : ∃ k : Nat, 0 ≤ p + k ∧ m * 2 ^ (p + k).toNat = n.natAbs * 2 ^ k := by
  obtain ⟨k, h0, h⟩ := h
  refine ⟨k, h0, ?_⟩
  have := congrArg Int.natAbs h
  rw [Int.natAbs_mul, Int.natAbs_mul, sg_abs, Int.natAbs_pow, Int.natAbs_pow] at this
  exact this
theorem Is.value {s : Bool} {m : Nat} {p n : Int} (h : Is s m p n) : ValueIs m p n.natAbs := by
  obtain ⟨k, h0, h⟩ := h.abs
  have hp := Nat.two_pow_pos k
  by_cases hpp : 0 ≤ p
  · refine .inl ⟨hpp, ?_⟩
    rw [show (p + k).toNat = p.toNat + k by omega, Nat.pow_add, ← Nat.mul_assoc] at h
    exact (Nat.eq_of_mul_eq_mul_right hp h).symm
  · refine .inr ⟨by omega, ?_⟩
    have hq := Nat.two_pow_pos (p + k).toNat
    rw [show k = (-p).toNat + (p + k).toNat by omega, Nat.pow_add, ← Nat.mul_assoc] at h
    rw [show (p + ((-p).toNat + (p + k).toNat : Nat)).toNat = (p + k).toNat by omega] at h
    exact Nat.eq_of_mul_eq_mul_right hq h
theorem Is.sign {s : Bool} {m : Nat} {p n : Int} (h : Is s m p n) (hn : n ≠ 0) : s = decide (n < 0) := by
  obtain ⟨k, h0, h⟩ := h
  have h1 : (0 : Int) < 2 ^ (p + k).toNat := Int.pow_pos (by decide)
  have h2 : (0 : Int) < 2 ^ k := Int.pow_pos (by decide)
  unfold sg at h
  cases s
  · simp only [Bool.false_eq_true, if_false] at h
    have : 0 ≤ n * 2 ^ k := by rw [← h]; exact Int.mul_nonneg (by omega) (by omega)
    have : 0 ≤ n := by
      rcases Int.lt_or_le n 0 with hl | hl
      · have := Int.mul_neg_of_neg_of_pos hl h2; omega
      · exact hl
    have hd : ¬ n < 0 := by omega
    simp [hd]
  · simp only [if_true] at h
    have h3 : -(m : Int) * 2 ^ (p + k).toNat ≤ 0 := by
      have : 0 ≤ (m : Int) * 2 ^ (p + k).toNat := Int.mul_nonneg (by omega) (by omega)
      rw [Int.neg_mul]; omega
    have : n < 0 := by
      rcases Int.lt_or_le n 0 with hl | hl
      · exact hl
      · have : 0 < n * 2 ^ k := Int.mul_pos (by omega) h2
        omega
    simp [this]
theorem Is.zero {s : Bool} {m : Nat} {p : Int} (h : Is s m p 0) : m = 0 := by
  rcases h.value with ⟨_, h⟩ | ⟨_, h⟩
  · have hp := Nat.two_pow_pos p.toNat
    simp at h
    rcases Nat.mul_eq_zero.1 h.symm with h | h
    · exact h
    · omega
  · simpa using h
/-- A word stands for the whole number n (nought may have either sign). -/
def Stands (b : Nat) (n : Int) : Prop := ∃ s m p, double.read b = .number s m p ∧ Is s m p n
theorem is_whole (s : Bool) (n : Int) (h : n ≠ 0 → s = decide (n < 0)) : Is s n.natAbs 0 n := by
  refine ⟨0, by omega, ?_⟩
  simp only [Int.add_zero, Int.toNat_zero, Int.pow_zero, Int.mul_one, Int.cast_ofNat_Int]
  unfold sg
  by_cases hn : n = 0
  · subst hn; simp
  · rw [h hn]
    by_cases hl : n < 0
    · simp [hl]; omega
    · simp [hl]; omega
theorem is_zero (s : Bool) (p : Int) : Is s 0 p 0 := ⟨p.natAbs, by omega, by unfold sg; split <;> simp⟩
set_option maxRecDepth 100000 in
theorem stands_write {s : Bool} {m : Nat} {p n : Int} (h : Is s m p n) (hn : n.natAbs < 2 ^ 53) : Stands (double.write (.number s m p)) n := by
  show Stands (double.nearest s m p) n
  by_cases h0 : n = 0
  · subst h0
    have hm := h.zero
    subst hm
    rw [nearest_zero]
    exact ⟨s, 0, -1074, read_zero s, is_zero s _⟩
  · have h1 : n.natAbs ≠ 0 := by omega
    rw [nearest_whole s m p n.natAbs h1 hn h.value]
    obtain ⟨_, _, hl⟩ := sig_range h1 hn
    refine ⟨s, _, _, read_whole s n.natAbs h1 hn, 52, by omega, ?_⟩
    have hs := h.sign h0
    have e : ((n.natAbs.log2 : Int) - 52 + (52 : Nat)).toNat = n.natAbs.log2 := by omega
    rw [e]
    have e2 : n.natAbs * 2 ^ (52 - n.natAbs.log2) * 2 ^ n.natAbs.log2 = n.natAbs * 2 ^ 52 := by
      rw [Nat.mul_assoc, ← Nat.pow_add]; congr 2; omega
    have e3 : ((n.natAbs * 2 ^ (52 - n.natAbs.log2) : Nat) : Int) * 2 ^ n.natAbs.log2 = (n.natAbs : Int) * 2 ^ 52 := by
      have := congrArg (fun x : Nat => (x : Int)) e2
      simpa [Int.natCast_mul, Int.natCast_pow] using this
    unfold sg
    rw [hs]
    by_cases hneg : n < 0
    · simp only [hneg, decide_true, if_true]
      rw [Int.neg_mul, e3, ← Int.neg_mul]
      congr 1; omega
    · simp only [hneg, decide_false, Bool.false_eq_true, if_false]
      rw [e3]
      congr 1; omega
set_option maxRecDepth 100000 in
theorem stands_int (n : Int) (hn : n.natAbs < 2 ^ 53) : Stands (floatOfInt .f64 n) n :=
  stands_write (is_whole (n < 0) n (fun _ => rfl)) hn
theorem sg_mul (s t : Bool) (m n : Nat) : sg (s ^^ t) (m * n) = sg s m * sg t n := by
  unfold sg
  cases s <;> cases t <;> simp [Int.natCast_mul, Int.neg_mul, Int.mul_neg]
theorem stands_mul {a b : Nat} {x y : Int} (ha : Stands a x) (hb : Stands b y) (h : (x * y).natAbs < 2 ^ 53) : ∃ r, floatBits .mul .f64 a b = some r ∧ Stands r (x * y) := by
  obtain ⟨s, m, p, hra, k, hk, e⟩ := ha
  obtain ⟨t, n, q, hrb, j, hj, e2⟩ := hb
  refine ⟨double.write (.number (s ^^ t) (m * n) (p + q)), ?_, stands_write ⟨k + j, by omega, ?_⟩ h⟩
  · show double.mul a b = _
    unfold Format.mul
    rw [hra, hrb]; rfl
  · rw [show (p + q + (k + j : Nat)).toNat = (p + k).toNat + (q + j).toNat by omega, Int.pow_add, Int.pow_add, sg_mul]
    have : sg s m * sg t n * (2 ^ (p + k).toNat * 2 ^ (q + j).toNat) = (sg s m * 2 ^ (p + k).toNat) * (sg t n * 2 ^ (q + j).toNat) := by
      simp only [Int.mul_assoc, Int.mul_left_comm]
    rw [this, e, e2]
    simp only [Int.mul_assoc, Int.mul_left_comm]
theorem signed_sg (s : Bool) (m up : Nat) : signed s m up = sg s m * 2 ^ up := by
  unfold signed sg
  rw [Nat.shiftLeft_eq]
  cases s <;> simp [Int.natCast_mul, Int.natCast_pow, Int.neg_mul]
theorem is_sum {s t : Bool} {m n : Nat} {p q x y : Int} (h1 : Is s m p x) (h2 : Is t n q y) (z : Bool) : Is (if signed s m (p - min p q).toNat + signed t n (q - min p q).toNat = 0 then z else decide (signed s m (p - min p q).toNat + signed t n (q - min p q).toNat < 0)) (signed s m (p - min p q).toNat + signed t n (q - min p q).toNat).natAbs (min p q) (x + y) := by
  obtain ⟨k, hk, e⟩ := h1
  obtain ⟨j, hj, e2⟩ := h2
  obtain ⟨hk', e'⟩ := Is.more hk e j
  obtain ⟨hj', e2'⟩ := Is.more hj e2 k
  refine ⟨k + j, by omega, ?_⟩
  have hsg : ∀ T : Int, sg (if T = 0 then z else decide (T < 0)) T.natAbs = T := fun T => by
    unfold sg
    by_cases h0 : T = 0
    · subst h0; simp
    · rw [if_neg h0]
      by_cases hl : T < 0
      · simp [hl]; omega
      · simp [hl]; omega
  rw [hsg, signed_sg, signed_sg, Int.add_mul, Int.mul_assoc, Int.mul_assoc, ← Int.pow_add, ← Int.pow_add]
  rw [show (p - min p q).toNat + (min p q + (k + j : Nat)).toNat = (p + (k + j : Nat)).toNat by omega,
    show (q - min p q).toNat + (min p q + (k + j : Nat)).toNat = (q + (j + k : Nat)).toNat by omega, e', e2', Int.add_mul, Nat.add_comm j k]
theorem stands_add {a b : Nat} {x y : Int} (ha : Stands a x) (hb : Stands b y) (h : (x + y).natAbs < 2 ^ 53) : ∃ r, floatBits .add .f64 a b = some r ∧ Stands r (x + y) := by
  obtain ⟨s, m, p, hra, ha⟩ := ha
  obtain ⟨t, n, q, hrb, hb⟩ := hb
  refine ⟨_, ?_, stands_write (is_sum ha hb (s && t)) h⟩
  show double.add a b = _
  unfold Format.add
  rw [hra, hrb]; rfl
theorem Is.neg {s : Bool} {m : Nat} {p n : Int} (h : Is s m p n) : Is (!s) m p (-n) := by
  obtain ⟨k, hk, e⟩ := h
  refine ⟨k, hk, ?_⟩
  have : sg (!s) m = - sg s m := by unfold sg; cases s <;> simp
  rw [this, Int.neg_mul, Int.neg_mul, e]
theorem stands_sub {a b : Nat} {x y : Int} (ha : Stands a x) (hb : Stands b y) (h : (x - y).natAbs < 2 ^ 53) : ∃ r, floatBits .sub .f64 a b = some r ∧ Stands r (x - y) := by
  obtain ⟨s, m, p, hra, ha⟩ := ha
  obtain ⟨t, n, q, hrb, hb⟩ := hb
  refine ⟨_, ?_, by have := stands_write (is_sum ha hb.neg (s && !t)) (by rw [← Int.sub_eq_add_neg]; exact h); rw [← Int.sub_eq_add_neg] at this; exact this⟩
  show double.sub a b = _
  unfold Format.sub
  rw [hra, hrb]; rfl
set_option maxRecDepth 100000 in
theorem stands_toInt {b : Nat} {n : Int} (h : Stands b n) (hn : n.natAbs < 2 ^ 53) : floatToIntVal .f64 b .i64 = some n := by
  obtain ⟨s, m, p, hr, hi⟩ := h
  unfold floatToIntVal
  have hcut : Toward.zero.cut s (m <<< p.toNat) (-p).toNat = n.natAbs := by
    rcases hi.value with ⟨hp, e⟩ | ⟨hp, e⟩
    · rw [show (-p).toNat = 0 by omega, Nat.shiftLeft_eq, ← e]
      simp [Toward.cut]
    · rw [show p.toNat = 0 by omega, Nat.shiftLeft_eq, Nat.pow_zero, Nat.mul_one]
      by_cases h0 : n = 0
      · subst h0
        have := hi.zero
        subst this
        simp [Toward.cut]
      · have hle : (-p).toNat ≤ m.log2 + 2 := by
          rw [e, log2_mul_pow _ _ (by omega)]; omega
        unfold Toward.cut
        rw [Nat.min_eq_left hle, Nat.shiftLeft_eq, Nat.one_mul, e]
        simp [Nat.mul_div_cancel _ (Nat.two_pow_pos _)]
  have hv : (FloatKind.f64.decode b).toInt .zero = some n := by
    show (double.read b).toInt .zero = some n
    rw [hr]
    unfold Datum.toInt Datum.integral
    simp only [hcut, signed_sg, Int.pow_zero, Int.mul_one]
    congr 1
    unfold sg
    by_cases h0 : n = 0
    · subst h0; simp
    · rw [hi.sign h0]
      by_cases hl : n < 0
      · simp [hl]; omega
      · simp [hl]; omega
  rw [hv]
  have h1 : IntKind.i64.min = -9223372036854775808 := rfl
  have h2 : IntKind.i64.max = 9223372036854775807 := rfl
  simp only [h1, h2]
  rw [if_pos (by omega)]

set_option maxRecDepth 100000 in
theorem xor_top (b : Nat) : (b ^^^ 2 ^ 63) % 2 ^ 63 = b % 2 ^ 63 ∧ ((b ^^^ 2 ^ 63) / 2 ^ 63 % 2 == 1) = !(b / 2 ^ 63 % 2 == 1) := by
  constructor
  · rw [Nat.xor_mod_two_pow, Nat.mod_self, Nat.xor_zero]
  · have h1 := Nat.testBit_eq_decide_div_mod_eq (x := b ^^^ 2 ^ 63) (i := 63)
    have h2 := Nat.testBit_eq_decide_div_mod_eq (x := b) (i := 63)
    rw [Nat.testBit_xor, h2, Nat.testBit_two_pow_self] at h1
    show decide ((b ^^^ 2 ^ 63) / 2 ^ 63 % 2 = 1) = !decide (b / 2 ^ 63 % 2 = 1)
    rw [← h1]
    cases decide (b / 2 ^ 63 % 2 = 1) <;> rfl
set_option maxRecDepth 100000 in
theorem stands_neg {b : Nat} {n : Int} (h : Stands b n) : Stands (b ^^^ 9223372036854775808) (-n) := by
  obtain ⟨s, m, p, hr, hi⟩ := h
  refine ⟨!s, m, p, ?_, hi.neg⟩
  obtain ⟨e1, e2⟩ := xor_top b
  rw [show (9223372036854775808 : Nat) = 2 ^ 63 from rfl]
  unfold Format.read at hr ⊢
  rw [sign_double] at hr ⊢
  simp only [e1, e2]
  simp only at hr
  split at hr
  · rename_i h1
    rw [if_pos h1]
    injection hr with a1 a2 a3
    subst a1 a2 a3
    rfl
  · rename_i h1
    rw [if_neg h1]
    split at hr
    · rename_i h2
      rw [if_pos h2]
      injection hr with a1 a2 a3
      subst a1 a2 a3
      rfl
    · rename_i h2
      split at hr <;> cases hr
theorem mul_pow_lt {a b : Int} {k : Nat} : a * 2 ^ k < b * 2 ^ k ↔ a < b :=
  ⟨fun h => Int.lt_of_mul_lt_mul_right h (Int.le_of_lt (Int.pow_pos (by decide))), fun h => Int.mul_lt_mul_of_pos_right h (Int.pow_pos (by decide))⟩
theorem stands_order {a b : Nat} {x y : Int} (ha : Stands a x) (hb : Stands b y) : double.order a b = some (compare x y) := by
  obtain ⟨s, m, p, hra, k, hk, e⟩ := ha
  obtain ⟨t, n, q, hrb, j, hj, e2⟩ := hb
  obtain ⟨hk', e'⟩ := Is.more hk e j
  obtain ⟨hj', e2'⟩ := Is.more hj e2 k
  have h1 : signed s m (p - min p q).toNat * 2 ^ (min p q + (k + j : Nat)).toNat = x * 2 ^ (k + j) := by
    rw [signed_sg, Int.mul_assoc, ← Int.pow_add, show (p - min p q).toNat + (min p q + (k + j : Nat)).toNat = (p + (k + j : Nat)).toNat by omega, e']
  have h2 : signed t n (q - min p q).toNat * 2 ^ (min p q + (k + j : Nat)).toNat = y * 2 ^ (k + j) := by
    rw [signed_sg, Int.mul_assoc, ← Int.pow_add, show (q - min p q).toNat + (min p q + (k + j : Nat)).toNat = (q + (j + k : Nat)).toNat by omega, e2', Nat.add_comm j k]
  unfold Format.order
  rw [hra, hrb]
  simp only [Datum.order]
  congr 1
  have hl : ∀ u v : Int, compare u v = if u < v then .lt else if u = v then .eq else .gt := fun u v => by
    simp only [compare, compareOfLessAndEq]
  rw [hl, hl]
  have c1 : signed s m (p - min p q).toNat < signed t n (q - min p q).toNat ↔ x < y := by rw [← mul_pow_lt (k := (min p q + (k + j : Nat)).toNat), h1, h2, mul_pow_lt]
  have c2 : signed t n (q - min p q).toNat < signed s m (p - min p q).toNat ↔ y < x := by rw [← mul_pow_lt (k := (min p q + (k + j : Nat)).toNat), h1, h2, mul_pow_lt]
  have c3 : signed s m (p - min p q).toNat = signed t n (q - min p q).toNat ↔ x = y := by
    constructor <;> intro h <;> omega
  by_cases g1 : x < y
  · rw [if_pos g1, if_pos (c1.2 g1)]
  · rw [if_neg g1, if_neg (fun h => g1 (c1.1 h))]
    by_cases g2 : x = y
    · rw [if_pos g2, if_pos (c3.2 g2)]
    · rw [if_neg g2, if_neg (fun h => g2 (c3.1 h))]
end Go.Proofs.Ytckochcocflleaa

/-
  Layer 10: points, slices of points; 'Good', walked.
-/
namespace Go.Proofs.Ytckochcocflleaa
open Go.RowKit
set_option linter.unusedVariables false

def Pt (x y : Int) : Value := .agg #[.int .i64 x, .int .i64 y]
/-- A slice's n points, in a block below B (nil and empty let in). -/
def RdP (w : World) (B : Nat) (A : Option Addr) (n : Nat) (X Y : Nat → Int) : Prop :=
  0 < n → ∃ b o, A = some ⟨b, o, none⟩ ∧ b < B ∧ ∀ j, j < n → w.cell? ⟨b, o + j * 2, none⟩ = some (.int .i64 (X j)) ∧ w.cell? ⟨b, o + j * 2 + 1, none⟩ = some (.int .i64 (Y j))
section
variable {w w' : World} {B B' n : Nat} {A : Option Addr} {X Y : Nat → Int}
theorem RdP.zero : RdP w B A 0 X Y := fun h => absurd h (by omega)
theorem RdP.keep (h : RdP w B A n X Y) (hk : ∀ b o, b < B → w'.cell? ⟨b, o, none⟩ = w.cell? ⟨b, o, none⟩) : RdP w' B A n X Y := fun hn => by
  obtain ⟨b, o, rfl, hb, hc⟩ := h hn
  exact ⟨b, o, rfl, hb, fun j hj => ⟨(hk _ _ hb).trans (hc j hj).1, (hk _ _ hb).trans (hc j hj).2⟩⟩
theorem RdP.more (h : RdP w B A n X Y) (hB : B ≤ B') : RdP w B' A n X Y := fun hn => by
  obtain ⟨b, o, rfl, hb, hc⟩ := h hn
  exact ⟨b, o, rfl, by omega, hc⟩
theorem RdP.on (h : RdP w w.heap.size A n X Y) (k : Since w w') : RdP w' w'.heap.size A n X Y := (h.keep fun b o hb => k.1 b o hb).more k.below.size
end
def goodB (x y : Int) : Bool := decide (-4194304 ≤ x ∧ x ≤ 4194304 ∧ -4194304 ≤ y ∧ y ≤ 4194304)
theorem goodB_iff {x y : Int} : goodB x y = true ↔ (-4194304 ≤ x ∧ x ≤ 4194304 ∧ -4194304 ≤ y ∧ y ≤ 4194304) := by unfold goodB; simp
def allG (X Y : Nat → Int) : Nat → Bool
  | 0 => true
  | n + 1 => allG X Y n && goodB (X n) (Y n)
theorem allG_iff {X Y : Nat → Int} {n : Nat} : allG X Y n = true ↔ ∀ j, j < n → goodB (X j) (Y j) = true := by
  induction n with
  | zero => simp [allG]
  | succ n ih =>
    simp only [allG, Bool.and_eq_true, ih]
    constructor
    · rintro ⟨h1, h2⟩ j hj
      by_cases e : j = n
      · subst e; exact h2
      · exact h1 j (by omega)
    · exact fun h => ⟨fun j hj => h j (by omega), h n (by omega)⟩
theorem allG_no {X Y : Nat → Int} {n j : Nat} (hj : j < n) (h : goodB (X j) (Y j) = false) : allG X Y n = false := by
  cases hh : allG X Y n with
  | false => rfl
  | true => rw [allG_iff.1 hh j hj] at h; cases h

set_option maxHeartbeats 4000000 in
theorem ga_good (A : Option Addr) (n c : Nat) (X Y : Nat → Int) (w : World) (h : RdP w w.heap.size A n X Y) (hX : ∀ j, j < n → In64 (X j) ∧ In64 (Y j)) (hn : n ≤ maxLen) :
    Calls Try.prog 59 #[.slice A n c] w fun e w' => e = .returned (.bool (allG X Y n)) ∧ Since w w' := by
  have hn' : (n : Int) ≤ 9223372036854775807 := by simp only [maxLen] at hn; omega
  go_enter Try.func59, Try.ntmps59
  go_wp2
  go_loopw [7] (fun y wr => ∃ j : Nat, j ≤ n ∧ y = .int .i64 (j : Int) ∧ Hid (allG X Y j = true) ∧ Since w wr) (fun y _ => n - (intOf y).toNat)
  case atStart => exact ⟨0, by omega, rfl, Lib.hid rfl, Since.refl _⟩
  case round =>
    obtain ⟨j, hj, rfl, HG, hSr⟩ := hrel
    by_cases hjn : j < n
    · have hjn' : (j : Int) < n := by omega
      obtain ⟨b, o, rfl, hb, hc⟩ := h (by omega)
      have c1 : wr.cell? ⟨b, o + j * 2, none⟩ = some (.int .i64 (X j)) := (hSr.1 _ _ hb).trans (hc j hjn).1
      have c2 : wr.cell? ⟨b, o + j * 2 + 1, none⟩ = some (.int .i64 (Y j)) := (hSr.1 _ _ hb).trans (hc j hjn).2
      have hx := hX j hjn
      have hblt : b < wr.heap.size := by have := hSr.below.size; omega
      clear hc h hX
      go_wp2
      all_goals first
        | (go_ret
           refine ⟨?_, by (repeat (first | with_reducible (exact Since.refl _) | with_reducible assumption | with_reducible (refine Since.drew ?_) | with_reducible (refine Since.drewN ?_ _) | with_reducible (refine Since.alloc ?_ _) | (with_reducible (refine Since.setCell ?_ ?_ _); rotate_left; focus (first | (simp; done) | (simp; omega) | omega)) | (with_reducible (refine Since.trans ?_ (by with_reducible assumption)))))⟩
           rw [allG_no (n := n) hjn (by unfold goodB; rw [decide_eq_false_iff_not]; intro hh; simp_all; try omega)]
           rfl)
        | (refine ⟨⟨j + 1, by omega, by simp, Lib.hid (by
             have hg : goodB (X j) (Y j) = true := goodB_iff.2 (by simp_all; try omega)
             simp only [allG, HG.out, hg, Bool.and_self]), by (repeat (first | with_reducible (exact Since.refl _) | with_reducible assumption | with_reducible (refine Since.drew ?_) | with_reducible (refine Since.drewN ?_ _) | with_reducible (refine Since.alloc ?_ _) | (with_reducible (refine Since.setCell ?_ ?_ _); rotate_left; focus (first | (simp; done) | (simp; omega) | omega)) | (with_reducible (refine Since.trans ?_ (by with_reducible assumption)))))⟩, by simp [intOf]; omega⟩)
        | trace_state
    · obtain rfl : j = n := by omega
      clear h hX
      go_wp2
      go_ret
      exact ⟨by rw [HG.out]; rfl, hSr⟩
end Go.Proofs.Ytckochcocflleaa

/-
  Layer 10: points as complex numbers, their products, walked.
-/
namespace Go.Proofs.Ytckochcocflleaa
open Go.RowKit
set_option linter.unusedVariables false

def fl (n : Int) : Nat := floatOfInt .f64 n
theorem fl_stands {n : Int} (h : n.natAbs ≤ 9007199254740991) : Stands (fl n) n := stands_int n (by omega)

/-- The conjugate of a + bi times c + di. -/
def inB (a b c d : Nat) : Nat × Nat := (cMulBits a (b ^^^ 9223372036854775808) c d).getD (0, 0)
def muB (a b c d : Nat) : Nat × Nat := (cMulBits a b c d).getD (0, 0)
/-- No farther from 0 than products of differences need. -/
def Near (n : Int) : Prop := -16777216 ≤ n ∧ n ≤ 16777216
theorem near_mul {p q : Int} (hp : Near p) (hq : Near q) : -281474976710656 ≤ p * q ∧ p * q ≤ 281474976710656 := by
  have h : (p * q).natAbs ≤ 281474976710656 := by
    rw [Int.natAbs_mul]
    unfold Near at hp hq
    exact Nat.le_trans (Nat.mul_le_mul (show p.natAbs ≤ 16777216 by omega) (show q.natAbs ≤ 16777216 by omega)) (by decide)
  omega
theorem mul_stands {a b c d : Nat} {p q r s : Int} (ha : Stands a p) (hb : Stands b q) (hc : Stands c r) (hd : Stands d s) (h1 : Near p) (h2 : Near q) (h3 : Near r) (h4 : Near s) :
    ∃ re im, cMulBits a b c d = some (re, im) ∧ Stands re (p * r - q * s) ∧ Stands im (p * s + q * r) := by
  have b1 := near_mul h1 h3; have b2 := near_mul h2 h4; have b3 := near_mul h1 h4; have b4 := near_mul h2 h3
  obtain ⟨x1, e1, s1⟩ := stands_mul ha hc (by omega)
  obtain ⟨x2, e2, s2⟩ := stands_mul hb hd (by omega)
  obtain ⟨x3, e3, s3⟩ := stands_sub s1 s2 (by omega)
  obtain ⟨x4, e4, s4⟩ := stands_mul ha hd (by omega)
  obtain ⟨x5, e5, s5⟩ := stands_mul hb hc (by omega)
  obtain ⟨x6, e6, s6⟩ := stands_add s4 s5 (by omega)
  exact ⟨x3, x6, by unfold cMulBits; simp only [e1, e2, e3, e4, e5, e6, Option.bind_some], s3, s6⟩
theorem muB_stands {a b c d : Nat} {p q r s : Int} (ha : Stands a p) (hb : Stands b q) (hc : Stands c r) (hd : Stands d s) (h1 : Near p) (h2 : Near q) (h3 : Near r) (h4 : Near s) :
    cMulBits a b c d = some ((muB a b c d).1, (muB a b c d).2) ∧ Stands (muB a b c d).1 (p * r - q * s) ∧ Stands (muB a b c d).2 (p * s + q * r) := by
  obtain ⟨re, im, e, s1, s2⟩ := mul_stands ha hb hc hd h1 h2 h3 h4
  unfold muB
  rw [e]
  exact ⟨rfl, s1, s2⟩
theorem inB_stands {a b c d : Nat} {p q r s : Int} (ha : Stands a p) (hb : Stands b q) (hc : Stands c r) (hd : Stands d s) (h1 : Near p) (h2 : Near q) (h3 : Near r) (h4 : Near s) :
    cMulBits a (b ^^^ 9223372036854775808) c d = some ((inB a b c d).1, (inB a b c d).2) ∧ Stands (inB a b c d).1 (p * r + q * s) ∧ Stands (inB a b c d).2 (p * s - q * r) := by
  obtain ⟨re, im, e, s1, s2⟩ := mul_stands ha (stands_neg hb) hc hd h1 (show Near (-q) by unfold Near at *; omega) h3 h4
  unfold inB
  rw [e]
  have e1 : p * r - -q * s = p * r + q * s := by rw [Int.neg_mul, Int.sub_neg]
  have e2 : p * s + -q * r = p * s - q * r := by rw [Int.neg_mul, Int.sub_eq_add_neg]
  rw [e1] at s1
  rw [e2] at s2
  exact ⟨rfl, s1, s2⟩
theorem neg_run (b : Nat) (w : World) : (Op.unary .neg (.float .f64 b)).run Try.prog w = .ok (.float .f64 (b ^^^ 9223372036854775808)) w := by
  simp [Op.unary, Op.negFloat, FloatKind.format, Ieee.double]
theorem toInt_run {a : Nat} {x : Int} (h : Stands a x) (hx : x.natAbs < 2 ^ 53) (w : World) : (convert 114 3 (.float .f64 a)).run Try.prog w = .ok (.int .i64 x) w :=
  run_convert_float_int w 114 3 .f64 .i64 a x (by rw [Try.underlying114]; rfl) Try.underlying3 (stands_toInt h hx)

set_option maxHeartbeats 4000000 in
theorem ga_number (x y : Int) (w : World) :
    Calls Try.prog 144 #[Pt x y] w fun e w' => e = .returned (.complex .f64 (fl x) (fl y)) ∧ Since w w' := by
  unfold Pt fl
  go_enter Try.func144, Try.ntmps144
  go_wp2
  go_ret
  exact ⟨rfl, by (repeat (first | with_reducible (exact Since.refl _) | with_reducible assumption | with_reducible (refine Since.drew ?_) | with_reducible (refine Since.drewN ?_ _) | with_reducible (refine Since.alloc ?_ _) | (with_reducible (refine Since.setCell ?_ ?_ _); rotate_left; focus (first | (simp; done) | (simp; omega) | omega)) | (with_reducible (refine Since.trans ?_ (by with_reducible assumption)))))⟩
set_option maxHeartbeats 4000000 in
theorem ga_inner (a b c d : Nat) {p q r s : Int} (ha : Stands a p) (hb : Stands b q) (hc : Stands c r) (hd : Stands d s) (h1 : Near p) (h2 : Near q) (h3 : Near r) (h4 : Near s) (w : World) :
    Calls Try.prog 143 #[.complex .f64 a b, .complex .f64 c d] w fun e w' => e = .returned (.complex .f64 (inB a b c d).1 (inB a b c d).2) ∧ Since w w' := by
  have hneg := neg_run b
  have hmul := fun t w => run_complex_mul (P := Try.prog) w t a (b ^^^ 9223372036854775808) c d _ _ (inB_stands ha hb hc hd h1 h2 h3 h4).1
  generalize (inB a b c d).1 = x1 at *
  generalize (inB a b c d).2 = x2 at *
  generalize b ^^^ 9223372036854775808 = b' at *
  clear ha hb hc hd h1 h2 h3 h4
  go_enter Try.func143, Try.ntmps143
  go_wp2
  go_ret
  exact ⟨rfl, by (repeat (first | with_reducible (exact Since.refl _) | with_reducible assumption | with_reducible (refine Since.drew ?_) | with_reducible (refine Since.drewN ?_ _) | with_reducible (refine Since.alloc ?_ _) | (with_reducible (refine Since.setCell ?_ ?_ _); rotate_left; focus (first | (simp; done) | (simp; omega) | omega)) | (with_reducible (refine Since.trans ?_ (by with_reducible assumption)))))⟩
end Go.Proofs.Ytckochcocflleaa

/-
  Layer 10: 'Cross', 'Dot', 'Times', walked.
-/
namespace Go.Proofs.Ytckochcocflleaa
open Go.RowKit
set_option linter.unusedVariables false

def two (a b : Int) (j : Nat) : Int := if j = 0 then a else b
def three (a b c : Int) (j : Nat) : Int := if j = 0 then a else if j = 1 then b else c
theorem rdp_one (w : World) (b : Nat) (hb : b = w.heap.size) (x y : Int) (t : TypeId) : RdP (w.alloc (.cells #[.int .i64 x, .int .i64 y] t)) (w.alloc (.cells #[.int .i64 x, .int .i64 y] t)).heap.size (some ⟨b, 0, none⟩) 1 (fun _ => x) (fun _ => y) := fun _ => by
  subst hb
  refine ⟨w.heap.size, 0, rfl, by simp, fun j hj => ?_⟩
  obtain rfl : j = 0 := by omega
  exact ⟨by rw [World.cell?_alloc_new]; rfl, by rw [World.cell?_alloc_new]; rfl⟩
theorem rdp_two (w : World) (b : Nat) (hb : b = w.heap.size) (x y u v : Int) (t : TypeId) : RdP (w.alloc (.cells #[.int .i64 x, .int .i64 y, .int .i64 u, .int .i64 v] t)) (w.alloc (.cells #[.int .i64 x, .int .i64 y, .int .i64 u, .int .i64 v] t)).heap.size (some ⟨b, 0, none⟩) 2 (two x u) (two y v) := fun _ => by
  subst hb
  refine ⟨w.heap.size, 0, rfl, by simp, fun j hj => ?_⟩
  have h : j = 0 ∨ j = 1 := by omega
  rcases h with rfl | rfl <;> exact ⟨by rw [World.cell?_alloc_new]; rfl, by rw [World.cell?_alloc_new]; rfl⟩
theorem rdp_three (w : World) (b : Nat) (hb : b = w.heap.size) (x y u v p q : Int) (t : TypeId) : RdP (w.alloc (.cells #[.int .i64 x, .int .i64 y, .int .i64 u, .int .i64 v, .int .i64 p, .int .i64 q] t)) (w.alloc (.cells #[.int .i64 x, .int .i64 y, .int .i64 u, .int .i64 v, .int .i64 p, .int .i64 q] t)).heap.size (some ⟨b, 0, none⟩) 3 (three x u p) (three y v q) := fun _ => by
  subst hb
  refine ⟨w.heap.size, 0, rfl, by simp, fun j hj => ?_⟩
  have h : j = 0 ∨ j = 1 ∨ j = 2 := by omega
  rcases h with rfl | rfl | rfl <;> exact ⟨by rw [World.cell?_alloc_new]; rfl, by rw [World.cell?_alloc_new]; rfl⟩
def InP (x y : Int) : Prop := In64 x ∧ In64 y
theorem good1 (w : World) (b : Nat) (hb : b = w.heap.size) (x y : Int) (t : TypeId) (h : InP x y) : Calls Try.prog 59 #[.slice (some ⟨b, 0, none⟩) 1 1] (w.alloc (.cells #[.int .i64 x, .int .i64 y] t)) fun e w' => e = .returned (.bool (goodB x y)) ∧ Since (w.alloc (.cells #[.int .i64 x, .int .i64 y] t)) w' := by
  have h := ga_good _ 1 1 _ _ _ (rdp_one w b hb x y t) (fun j hj => h) (by decide)
  simpa [allG] using h
theorem good2 (w : World) (b : Nat) (hb : b = w.heap.size) (x y u v : Int) (t : TypeId) (h : InP x y) (h' : InP u v) : Calls Try.prog 59 #[.slice (some ⟨b, 0, none⟩) 2 2] (w.alloc (.cells #[.int .i64 x, .int .i64 y, .int .i64 u, .int .i64 v] t)) fun e w' => e = .returned (.bool (goodB x y && goodB u v)) ∧ Since (w.alloc (.cells #[.int .i64 x, .int .i64 y, .int .i64 u, .int .i64 v] t)) w' := by
  have h := ga_good _ 2 2 _ _ _ (rdp_two w b hb x y u v t) (fun j hj => by unfold two; split; exact h; exact h') (by decide)
  simpa [allG, two] using h
theorem good3 (w : World) (b : Nat) (hb : b = w.heap.size) (x y u v p q : Int) (t : TypeId) (h : InP x y) (h' : InP u v) (h'' : InP p q) : Calls Try.prog 59 #[.slice (some ⟨b, 0, none⟩) 3 3] (w.alloc (.cells #[.int .i64 x, .int .i64 y, .int .i64 u, .int .i64 v, .int .i64 p, .int .i64 q] t)) fun e w' => e = .returned (.bool (goodB x y && goodB u v && goodB p q)) ∧ Since (w.alloc (.cells #[.int .i64 x, .int .i64 y, .int .i64 u, .int .i64 v, .int .i64 p, .int .i64 q] t)) w' := by
  have h := ga_good _ 3 3 _ _ _ (rdp_three w b hb x y u v p q t) (fun j hj => by unfold three; split; exact h; split; exact h'; exact h'') (by decide)
  simpa [allG, three] using h
theorem good_near {x y : Int} (h : goodB x y = true) : Near x ∧ Near y ∧ x.natAbs ≤ 9007199254740991 ∧ y.natAbs ≤ 9007199254740991 := by
  have := goodB_iff.1 h
  unfold Near
  omega

/-- A block holds a point. -/
def PtAt (w : World) (b : Nat) (x y : Int) : Prop := w.cell? ⟨b, 0, none⟩ = some (.int .i64 x) ∧ w.cell? ⟨b, 1, none⟩ = some (.int .i64 y) ∧ b < w.heap.size
theorem PtAt.since {w w' : World} {b : Nat} {x y : Int} (h : PtAt w b x y) (k : Since w w') : PtAt w' b x y := ⟨(k.1 _ _ h.2.2).trans h.1, (k.1 _ _ h.2.2).trans h.2.1, k.2.2.1 _ h.2.2⟩
theorem PtAt.alloc {w : World} {b : Nat} {x y : Int} (h : PtAt w b x y) (o : Obj) : PtAt (w.alloc o) b x y := h.since ((Since.refl w).alloc o)
theorem pt_new (w : World) (b : Nat) (hb : b = w.heap.size) (x y : Int) (t : TypeId) : PtAt (w.alloc (.cells #[.int .i64 x, .int .i64 y] t)) b x y := by
  subst hb
  exact ⟨by rw [World.cell?_alloc_new]; rfl, by rw [World.cell?_alloc_new]; rfl, by simp⟩
/-- A block holds nought, and may be written. -/
def Zero2 (w : World) (b : Nat) : Prop := PtAt w b 0 0 ∧ ∀ j, w.frozen? ⟨b, j, none⟩ = false
theorem zero2_new (w : World) (b : Nat) (hb : b = w.heap.size) (t : TypeId) : Zero2 (w.alloc (.cells #[.int .i64 0, .int .i64 0] t)) b := by
  refine ⟨pt_new w b hb 0 0 t, fun j => ?_⟩
  subst hb
  rw [frozen?_alloc_cells]
  simp [World.frozen?]
theorem Zero2.since {w w' : World} {b : Nat} (h : Zero2 w b) (k : Since w w') : Zero2 w' b := ⟨h.1.since k, fun j => (k.2.1 _ _ h.1.2.2).trans (h.2 j)⟩
theorem Zero2.alloc {w : World} {b : Nat} (h : Zero2 w b) (o : Obj) : Zero2 (w.alloc o) b := h.since ((Since.refl w).alloc o)
def crossI (x y u v : Int) : Int := x * v - y * u
def dotI (x y u v : Int) : Int := x * u + y * v
def okE (b : Bool) : Int := if b then 0 else 6
def timesX (x y u v : Int) : Int := x * u - y * v
def timesY (x y u v : Int) : Int := x * v + y * u
end Go.Proofs.Ytckochcocflleaa

/-
  Layer 10: 'Turn', 'Quarter', walked.
-/
namespace Go.Proofs.Ytckochcocflleaa
open Go.RowKit
set_option linter.unusedVariables false

theorem stands_zero : Stands 0 0 := ⟨false, 0, -1074, by decide, is_zero false _⟩
theorem stands_one : Stands 4607182418800017408 1 := by
  have h := stands_int 1 (by decide)
  rw [show floatOfInt .f64 1 = 4607182418800017408 by decide +kernel] at h
  exact h
theorem order_self {b : Nat} {n : Int} (h : Stands b n) : FloatKind.f64.format.order b b = some .eq := by
  have := stands_order h h
  rw [show compare n n = .eq by simp [compare, compareOfLessAndEq]] at this
  exact this
def sgnI (n : Int) : Int := if n < 0 then -1 else if n = 0 then 0 else 1

set_option maxRecDepth 100000 in
set_option maxHeartbeats 4000000 in
theorem cmp_nan (b : Nat) {n : Int} (h : Stands b n) (w : World) :
    Calls Try.prog 149 #[.float .f64 b] w fun e w' => e = .returned (.bool false) ∧ w' = w := by
  have h1 := order_self h
  clear h
  go_enter Try.func149, Try.ntmps149
  go_wp2
  go_ret
  exact ⟨rfl, rfl⟩
set_option maxRecDepth 100000 in
set_option maxHeartbeats 4000000 in
theorem cmp_zero (b : Nat) {n : Int} (h : Stands b n) (w : World) :
    Calls Try.prog 145 #[.float .f64 b, .float .f64 0] w fun e w' => e = .returned (.int .i64 (sgnI n)) ∧ w' = w := by
  have ho : FloatKind.f64.format.order b 0 = some (compare n 0) := stands_order h stands_zero
  have c1 := fun w => cmp_nan b h w
  have c2 := fun w => cmp_nan 0 stands_zero w
  have C1 := Lib.hid c1; have C2 := Lib.hid c2
  clear h c1 c2
  have hl : compare n 0 = if n < 0 then .lt else if n = 0 then .eq else .gt := by simp only [compare, compareOfLessAndEq]
  rw [hl] at ho
  unfold sgnI
  rcases Int.lt_trichotomy n 0 with g | g | g
  · rw [if_pos g] at ho ⊢
    clear hl g
    go_enter Try.func145, Try.ntmps145
    go_wp2_with (first | (go_at_call 149; refine (C1.out _).mono ?_; rintro e w ⟨rfl, rfl⟩) | (go_at_call 149; refine (C2.out _).mono ?_; rintro e w ⟨rfl, rfl⟩))
    go_ret
    exact ⟨rfl, rfl⟩
  · subst g
    rw [if_neg (by decide), if_pos rfl] at ho ⊢
    clear hl
    go_enter Try.func145, Try.ntmps145
    go_wp2_with (first | (go_at_call 149; refine (C1.out _).mono ?_; rintro e w ⟨rfl, rfl⟩) | (go_at_call 149; refine (C2.out _).mono ?_; rintro e w ⟨rfl, rfl⟩))
    go_ret
    exact ⟨rfl, rfl⟩
  · rw [if_neg (by omega), if_neg (by omega)] at ho ⊢
    clear hl g
    go_enter Try.func145, Try.ntmps145
    go_wp2_with (first | (go_at_call 149; refine (C1.out _).mono ?_; rintro e w ⟨rfl, rfl⟩) | (go_at_call 149; refine (C2.out _).mono ?_; rintro e w ⟨rfl, rfl⟩))
    go_ret
    exact ⟨rfl, rfl⟩

/-- The difference of two points as complex numbers. -/
def suB (a b c d : Nat) : Nat × Nat := (cSumBits .sub .f64 a b c d).getD (0, 0)
theorem suB_stands {a b c d : Nat} {p q r s : Int} (ha : Stands a p) (hb : Stands b q) (hc : Stands c r) (hd : Stands d s) (h1 : (p - r).natAbs < 2 ^ 53) (h2 : (q - s).natAbs < 2 ^ 53) :
    cSumBits .sub .f64 a b c d = some ((suB a b c d).1, (suB a b c d).2) ∧ Stands (suB a b c d).1 (p - r) ∧ Stands (suB a b c d).2 (q - s) := by
  obtain ⟨x1, e1, s1⟩ := stands_sub ha hc h1
  obtain ⟨x2, e2, s2⟩ := stands_sub hb hd h2
  have e : cSumBits .sub .f64 a b c d = some (x1, x2) := by unfold cSumBits; simp only [e1, e2, Option.bind_some]
  unfold suB
  rw [e]
  exact ⟨rfl, s1, s2⟩
def turnI (x y u v p q : Int) : Int := sgnI (crossI (u - x) (v - y) (p - x) (q - y))

set_option maxRecDepth 100000 in
set_option maxHeartbeats 8000000 in
theorem ga_turn (x y u v p q : Int) (h : InP x y) (h' : InP u v) (h'' : InP p q) (w : World) :
    Calls Try.prog 128 #[Pt x y, Pt u v, Pt p q] w fun e w' => e = .returned (.tuple #[.int .i64 (if goodB x y && goodB u v && goodB p q then turnI x y u v p q else 0), .int .i64 (okE (goodB x y && goodB u v && goodB p q))]) ∧ Since w w' := by
  have hg := fun w b hb t => good3 w b hb x y u v p q t h h' h''
  by_cases hgg : (goodB x y && goodB u v && goodB p q) = true
  · obtain ⟨g12, g3⟩ := Bool.and_eq_true_iff.1 hgg
    obtain ⟨g1, g2⟩ := Bool.and_eq_true_iff.1 g12
    have k1 := goodB_iff.1 g1; have k2 := goodB_iff.1 g2; have k3 := goodB_iff.1 g3
    obtain ⟨_, _, m1, m2⟩ := good_near g1
    obtain ⟨_, _, m3, m4⟩ := good_near g2
    obtain ⟨_, _, m5, m6⟩ := good_near g3
    have hB := suB_stands (fl_stands m3) (fl_stands m4) (fl_stands m1) (fl_stands m2) (by omega) (by omega)
    have hC := suB_stands (fl_stands m5) (fl_stands m6) (fl_stands m1) (fl_stands m2) (by omega) (by omega)
    have s1 := fun t w => run_complex_sum (P := Try.prog) w .sub (.inr rfl) t .f64 (fl u) (fl v) (fl x) (fl y) _ _ hB.1
    have s2 := fun t w => run_complex_sum (P := Try.prog) w .sub (.inr rfl) t .f64 (fl p) (fl q) (fl x) (fl y) _ _ hC.1
    have n1 : Near (u - x) := by unfold Near; omega
    have n2 : Near (v - y) := by unfold Near; omega
    have n3 : Near (p - x) := by unfold Near; omega
    have n4 : Near (q - y) := by unfold Near; omega
    have hI := inB_stands hB.2.1 hB.2.2 hC.2.1 hC.2.2 n1 n2 n3 n4
    have hin := fun w => ga_inner _ _ _ _ hB.2.1 hB.2.2 hC.2.1 hC.2.2 n1 n2 n3 n4 w
    have hcmp := fun w => cmp_zero _ hI.2.2 w
    rw [hgg] at hg ⊢
    simp only [if_true, okE]
    unfold turnI crossI
    generalize (inB (suB (fl u) (fl v) (fl x) (fl y)).1 (suB (fl u) (fl v) (fl x) (fl y)).2 (suB (fl p) (fl q) (fl x) (fl y)).1 (suB (fl p) (fl q) (fl x) (fl y)).2).1 = z1 at *
    generalize (inB (suB (fl u) (fl v) (fl x) (fl y)).1 (suB (fl u) (fl v) (fl x) (fl y)).2 (suB (fl p) (fl q) (fl x) (fl y)).1 (suB (fl p) (fl q) (fl x) (fl y)).2).2 = z2 at *
    generalize (suB (fl u) (fl v) (fl x) (fl y)).1 = d1 at *
    generalize (suB (fl u) (fl v) (fl x) (fl y)).2 = d2 at *
    generalize (suB (fl p) (fl q) (fl x) (fl y)).1 = d3 at *
    generalize (suB (fl p) (fl q) (fl x) (fl y)).2 = d4 at *
    generalize sgnI ((u - x) * (q - y) - (v - y) * (p - x)) = N at *
    clear hI hB hC hgg g1 g2 g3 g12 n1 n2 n3 n4 m1 m2 m3 m4 m5 m6 k1 k2 k3 h h' h''
    have hnum := fun x y w => ga_number x y w
    unfold Pt at *
    have HG := Lib.hid hg; have HI := Lib.hid hin; have HN := Lib.hid hnum; have HC := Lib.hid hcmp
    clear hg hin hnum hcmp
    go_enter Try.func128, Try.ntmps128
    go_wp2_with (go_at_call 59; (with_reducible refine (HG.out _ _ (by simp) _).mono ?_); rintro e w1 ⟨rfl, hS1⟩; have hP1 := ((((pt_new w _ rfl x y _).alloc _).alloc _).alloc _).since hS1; have hP2 := (((pt_new _ (w.heap.size + 1) (by simp) u v _).alloc _).alloc _).since hS1; have hP3 := ((pt_new _ (w.heap.size + 1 + 1) (by simp) p q _).alloc _).since hS1; have hS : Since w w1 := by (repeat (first | with_reducible (exact Since.refl _) | with_reducible assumption | with_reducible (refine Since.drew ?_) | with_reducible (refine Since.drewN ?_ _) | with_reducible (refine Since.alloc ?_ _) | (with_reducible (refine Since.setCell ?_ ?_ _); rotate_left; focus (first | (simp; done) | (simp; omega) | omega)) | (with_reducible (refine Since.trans ?_ (by with_reducible assumption))))))
    obtain ⟨p1, p2, p3⟩ := hP1
    obtain ⟨p4, p5, p6⟩ := hP2
    obtain ⟨p7, p8, p9⟩ := hP3
    clear hS1
    (refine wp_named fun wr1 hwr1 => ?_; go_region_held3 (fun w' => (∀ b o, b < wr1.heap.size → w'.cell? ⟨b, o, none⟩ = wr1.cell? ⟨b, o, none⟩) ∧ (∀ b o, b < wr1.heap.size → w'.frozen? ⟨b, o, none⟩ = wr1.frozen? ⟨b, o, none⟩) ∧ (∀ k, k < wr1.heap.size → k < w'.heap.size) ∧ Below wr1.heap.size wr1 w') ((subst hwr1; (repeat (with_reducible (refine since_put ?_ ?_ _); rotate_left; focus (first | (simp; done) | (simp; omega) | omega))); first | assumption | (refine since_step (by assumption) ?_; first | assumption | ((repeat (first | with_reducible (exact Since.refl _) | with_reducible assumption | with_reducible (refine Since.drew ?_) | with_reducible (refine Since.drewN ?_ _) | with_reducible (refine Since.alloc ?_ _) | (with_reducible (refine Since.setCell ?_ ?_ _); rotate_left; focus (first | (simp; done) | (simp; omega) | omega)))); done)) | (refine since_step (Since.refl _) ?_; first | assumption | ((repeat (first | with_reducible (exact Since.refl _) | with_reducible assumption | with_reducible (refine Since.drew ?_) | with_reducible (refine Since.drewN ?_ _) | with_reducible (refine Since.alloc ?_ _) | (with_reducible (refine Since.setCell ?_ ?_ _); rotate_left; focus (first | (simp; done) | (simp; omega) | omega)) | (with_reducible (refine Since.trans ?_ (by with_reducible assumption))))); done)))) (first | (go_at_call 144; refine (HN.out _ _ _).mono ?_; rintro e w1 ⟨rfl, hS⟩; have hZ := hS.below.size; (try simp at hZ)) | (go_at_call 143; refine (HI.out _).mono ?_; rintro e w1 ⟨rfl, hS⟩; have hZ := hS.below.size; (try simp at hZ))); all_goals (rename_i hHeld; have hR1 : Since wr1 _ := hHeld; obtain ⟨hcR1, hfR1, hzR1, hbR1⟩ := hHeld; subst hwr1))
    go_wp2_with (go_at_call 145; refine (HC.out _).mono ?_; rintro e w2 ⟨rfl, rfl⟩)
    go_ret2
    exact ⟨rfl, by (repeat (first | with_reducible (exact Since.refl _) | with_reducible assumption | with_reducible (refine Since.drew ?_) | with_reducible (refine Since.drewN ?_ _) | with_reducible (refine Since.alloc ?_ _) | (with_reducible (refine Since.setCell ?_ ?_ _); rotate_left; focus (first | (simp; done) | (simp; omega) | omega)) | (with_reducible (refine Since.trans ?_ (by with_reducible assumption)))))⟩
  · have hgf : (goodB x y && goodB u v && goodB p q) = false := by simpa using hgg
    rw [hgf] at hg ⊢
    have HG := Lib.hid hg
    clear hg hgg hgf
    simp only [okE]
    unfold Pt
    go_enter Try.func128, Try.ntmps128
    go_wp2_with (go_at_call 59; (with_reducible refine (HG.out _ _ (by simp) _).mono ?_); rintro e w1 ⟨rfl, hS1⟩)
    go_ret2
    exact ⟨rfl, by (repeat (first | with_reducible (exact Since.refl _) | with_reducible assumption | with_reducible (refine Since.drew ?_) | with_reducible (refine Since.drewN ?_ _) | with_reducible (refine Since.alloc ?_ _) | (with_reducible (refine Since.setCell ?_ ?_ _); rotate_left; focus (first | (simp; done) | (simp; omega) | omega)) | (with_reducible (refine Since.trans ?_ (by with_reducible assumption)))))⟩
end Go.Proofs.Ytckochcocflleaa

/-
  Layer 10: 'Quarter', walked; the reference's small functions, walked.
-/
namespace Go.Proofs.Ytckochcocflleaa
open Go.RowKit
set_option linter.unusedVariables false

/-- A point turned by quarters. -/
def qu (x y : Int) : Nat → Int × Int
  | 0 => (x, y)
  | k + 1 => (-(qu x y k).2, (qu x y k).1)
theorem qu_near {x y : Int} {B : Int} (hx : -B ≤ x ∧ x ≤ B) (hy : -B ≤ y ∧ y ≤ B) : ∀ k, (-B ≤ (qu x y k).1 ∧ (qu x y k).1 ≤ B) ∧ (-B ≤ (qu x y k).2 ∧ (qu x y k).2 ≤ B)
  | 0 => ⟨hx, hy⟩
  | k + 1 => by
    have h := qu_near hx hy k
    simp only [qu]
    omega
theorem and_three (n : Int) : bits .and .i64 n 3 = ((n % 4).toNat : Int) := by
  show IntKind.i64.wrap ((BitVec.ofInt 64 n &&& BitVec.ofInt 64 3).toNat : Int) = _
  rw [BitVec.toNat_and, show (BitVec.ofInt 64 3).toNat = 2 ^ 2 - 1 from rfl, Nat.and_two_pow_sub_one_eq_mod, BitVec.toNat_ofInt, IntKind.wrap_i64]
  omega
def resQ (x y : Int) (n : Int) : Int × Int := qu x y (n % 4).toNat

end Go.Proofs.Ytckochcocflleaa

/-
  Layer 10: the reference's functions, walked.
-/
namespace Go.Proofs.Ytckochcocflleaa
open Go.RowKit
set_option linter.unusedVariables false

theorem eq_pt (w : World) (x y u v : Int) : (Op.equalIn 10000 34 (.agg #[.int .i64 x, .int .i64 y]) (.agg #[.int .i64 u, .int .i64 v])).run Try.prog w = .ok (x == u && y == v) w := by
  rw [run_equalIn_struct w 9999 34 _ _ (by kernel_rfl) (by kernel_rfl)]
  have heq : ∀ (d : Nat) (a b : Int) (w : World), (Op.equalIn (d + 1) 3 (.int .i64 a) (.int .i64 b)).run Try.prog w = .ok (a == b) w := fun d a b w => run_equalIn_int w d _ _ _ a b Try.underlying3
  have hc : Try.prog.cellsOf 3 = 1 := by kernel_rfl
  simp only [Program.fieldsOf, Try.underlying34]
  by_cases h0 : x = u
  · by_cases h1 : y = v
    · simp [go_sem, h0, h1]
    · simp [go_sem, h0, h1]
  · simp [go_sem, h0]
attribute [go_sem] eq_pt

set_option maxHeartbeats 4000000 in
theorem rf_good (x y : Int) (w : World) :
    Calls Try.prog 22 #[Pt x y] w fun e w' => e = .returned (.bool (goodB x y)) ∧ Since w w' := by
  unfold Pt
  by_cases hy : y ≤ 4194304
  all_goals
    go_enter Try.func22, Try.ntmps22
    go_wp2
    all_goals
      go_ret
      refine ⟨?_, by (repeat (first | with_reducible (exact Since.refl _) | with_reducible assumption | with_reducible (refine Since.drew ?_) | with_reducible (refine Since.drewN ?_ _) | with_reducible (refine Since.alloc ?_ _) | (with_reducible (refine Since.setCell ?_ ?_ _); rotate_left; focus (first | (simp; done) | (simp; omega) | omega)) | (with_reducible (refine Since.trans ?_ (by with_reducible assumption)))))⟩
      first
        | (rw [show goodB x y = true from goodB_iff.2 (by simp_all)]; simp_all; done)
        | (rw [show goodB x y = false by (unfold goodB; rw [decide_eq_false_iff_not]; simp_all; try omega)]; simp_all; done)
        | trace_state
theorem rf_cross (x y u v : Int) (h1 : Near x) (h2 : Near y) (h3 : Near u) (h4 : Near v) (w : World) :
    Calls Try.prog 46 #[Pt x y, Pt u v] w fun e w' => e = .returned (.int .i64 (crossI x y u v)) ∧ Since w w' := by
  obtain ⟨b1, b2⟩ := near_mul h1 h4
  obtain ⟨b3, b4⟩ := near_mul h2 h3
  unfold Pt crossI
  generalize hp : x * v = m at *
  generalize hq : y * u = n at *
  go_enter Try.func46, Try.ntmps46
  go_wp2
  go_ret
  exact ⟨rfl, by (repeat (first | with_reducible (exact Since.refl _) | with_reducible assumption | with_reducible (refine Since.drew ?_) | with_reducible (refine Since.drewN ?_ _) | with_reducible (refine Since.alloc ?_ _) | (with_reducible (refine Since.setCell ?_ ?_ _); rotate_left; focus (first | (simp; done) | (simp; omega) | omega)) | (with_reducible (refine Since.trans ?_ (by with_reducible assumption)))))⟩
theorem rf_dot (x y u v : Int) (h1 : Near x) (h2 : Near y) (h3 : Near u) (h4 : Near v) (w : World) :
    Calls Try.prog 47 #[Pt x y, Pt u v] w fun e w' => e = .returned (.int .i64 (dotI x y u v)) ∧ Since w w' := by
  obtain ⟨b1, b2⟩ := near_mul h1 h3
  obtain ⟨b3, b4⟩ := near_mul h2 h4
  unfold Pt dotI
  generalize hp : x * u = m at *
  generalize hq : y * v = n at *
  go_enter Try.func47, Try.ntmps47
  go_wp2
  go_ret
  exact ⟨rfl, by (repeat (first | with_reducible (exact Since.refl _) | with_reducible assumption | with_reducible (refine Since.drew ?_) | with_reducible (refine Since.drewN ?_ _) | with_reducible (refine Since.alloc ?_ _) | (with_reducible (refine Since.setCell ?_ ?_ _); rotate_left; focus (first | (simp; done) | (simp; omega) | omega)) | (with_reducible (refine Since.trans ?_ (by with_reducible assumption)))))⟩
theorem rf_sign (n : Int) (h : In64 n) (w : World) :
    Calls Try.prog 87 #[.int .i64 n] w fun e w' => e = .returned (.int .i64 (sgnI n)) ∧ Since w w' := by
  unfold sgnI
  rcases Int.lt_trichotomy n 0 with g | g | g
  · rw [if_pos g]
    go_enter Try.func87, Try.ntmps87
    go_wp2
    go_ret
    exact ⟨rfl, by (repeat (first | with_reducible (exact Since.refl _) | with_reducible assumption | with_reducible (refine Since.drew ?_) | with_reducible (refine Since.drewN ?_ _) | with_reducible (refine Since.alloc ?_ _) | (with_reducible (refine Since.setCell ?_ ?_ _); rotate_left; focus (first | (simp; done) | (simp; omega) | omega)) | (with_reducible (refine Since.trans ?_ (by with_reducible assumption)))))⟩
  · subst g
    go_enter Try.func87, Try.ntmps87
    go_wp2
    go_ret
    exact ⟨rfl, by (repeat (first | with_reducible (exact Since.refl _) | with_reducible assumption | with_reducible (refine Since.drew ?_) | with_reducible (refine Since.drewN ?_ _) | with_reducible (refine Since.alloc ?_ _) | (with_reducible (refine Since.setCell ?_ ?_ _); rotate_left; focus (first | (simp; done) | (simp; omega) | omega)) | (with_reducible (refine Since.trans ?_ (by with_reducible assumption)))))⟩
  · rw [if_neg (by omega), if_neg (by omega)]
    by_cases e : n = 1
    · subst e
      go_enter Try.func87, Try.ntmps87
      go_wp2
      go_ret
      exact ⟨rfl, by (repeat (first | with_reducible (exact Since.refl _) | with_reducible assumption | with_reducible (refine Since.drew ?_) | with_reducible (refine Since.drewN ?_ _) | with_reducible (refine Since.alloc ?_ _) | (with_reducible (refine Since.setCell ?_ ?_ _); rotate_left; focus (first | (simp; done) | (simp; omega) | omega)) | (with_reducible (refine Since.trans ?_ (by with_reducible assumption)))))⟩
    · have g1 : (1 : Int) < n := by omega
      go_enter Try.func87, Try.ntmps87
      go_wp2
      go_ret
      exact ⟨rfl, by (repeat (first | with_reducible (exact Since.refl _) | with_reducible assumption | with_reducible (refine Since.drew ?_) | with_reducible (refine Since.drewN ?_ _) | with_reducible (refine Since.alloc ?_ _) | (with_reducible (refine Since.setCell ?_ ?_ _); rotate_left; focus (first | (simp; done) | (simp; omega) | omega)) | (with_reducible (refine Since.trans ?_ (by with_reducible assumption)))))⟩
end Go.Proofs.Ytckochcocflleaa

/-
  Layer 16: 'Of', 'compare' and the parts of a line's way, walked.
-/
namespace Go.Proofs.Ytckochcocflleaa
open Go.RowKit
set_option linter.unusedVariables false

set_option maxHeartbeats 1000000 in
theorem px_of (x y : Int) (hx : -9223372036854775808 ≤ x ∧ x ≤ 9223372036854775775) (hy : -9223372036854775808 ≤ y ∧ y ≤ 9223372036854775775) (w : World) :
    Calls Try.prog 20 #[Pt x y] w fun e w' => e = .returned (Pt (pxI x) (pxI y)) ∧ Since w w' := by
  have u1 : IntKind.i64.wrap (x + 32) = x + 32 := IntWalk.i64_in _ (by omega)
  have u2 : IntKind.i64.wrap (y + 32) = y + 32 := IntWalk.i64_in _ (by omega)
  have u3 : IntKind.i64.wrap ((x + 32) / 64) = (x + 32) / 64 := IntWalk.i64_in _ (by omega)
  have u4 : IntKind.i64.wrap ((y + 32) / 64) = (y + 32) / 64 := IntWalk.i64_in _ (by omega)
  unfold Pt pxI
  go_enter Try.func20, Try.ntmps20
  go_wp2
  refine bodyPost_ret (by simp only [results, Try.results20]; go_simp) rfl ⟨rfl, ?_⟩
  (repeat (first | with_reducible (exact Since.refl _) | with_reducible assumption | with_reducible (refine Since.drew ?_) | with_reducible (refine Since.drewN ?_ _) | with_reducible (refine Since.alloc ?_ _) | (with_reducible (refine Since.setCell ?_ ?_ _); rotate_left; focus (first | (simp; done) | (simp; omega) | omega)) | (with_reducible (refine Since.trans ?_ (by with_reducible assumption)))))
theorem cmp_int (x y : Int) (w : World) :
    Calls Try.prog 71 #[.int .i64 x, .int .i64 y] w fun e w' => e = .returned (.int .i64 (cmpI x y)) ∧ w = w' := by
  rcases Int.lt_trichotomy x y with h | h | h
  · have E : cmpI x y = -1 := by unfold cmpI; rw [if_pos h]
    rw [E]; clear E
    go_enter Try.func71, Try.ntmps71
    go_wp2
    go_ret
    exact ⟨rfl, rfl⟩
  · subst h
    have E : cmpI x x = 0 := by unfold cmpI; simp
    rw [E]; clear E
    go_enter Try.func71, Try.ntmps71
    go_wp2
    go_ret
    exact ⟨rfl, rfl⟩
  · have E : cmpI x y = 1 := by unfold cmpI; rw [if_neg (by omega), if_pos h]
    have h' : ¬ x < y := by omega
    rw [E]; clear E
    go_enter Try.func71, Try.ntmps71
    go_wp2
    go_ret
    exact ⟨rfl, rfl⟩
set_option maxHeartbeats 1000000 in
theorem px_compare (n d m e : Int) (h1 : In64 (n * e)) (h2 : In64 (m * d)) (w : World) :
    Calls Try.prog 84 #[.agg #[.int .i64 n, .int .i64 d], .agg #[.int .i64 m, .int .i64 e]] w fun e' w' => e' = .returned (.int .i64 (cmpF n d m e)) ∧ Since w w' := by
  have u1 : IntKind.i64.wrap (n * e) = n * e := IntWalk.i64_in _ h1
  have u2 : IntKind.i64.wrap (m * d) = m * d := IntWalk.i64_in _ h2
  unfold cmpF
  go_enter Try.func84, Try.ntmps84
  go_wp2_with (go_at_call 71; refine (cmp_int _ _ _).mono ?_; rintro e w1 ⟨rfl, rfl⟩)
  go_ret
  exact ⟨rfl, by (repeat (first | with_reducible (exact Since.refl _) | with_reducible assumption | with_reducible (refine Since.drew ?_) | with_reducible (refine Since.drewN ?_ _) | with_reducible (refine Since.alloc ?_ _) | (with_reducible (refine Since.setCell ?_ ?_ _); rotate_left; focus (first | (simp; done) | (simp; omega) | omega)) | (with_reducible (refine Since.trans ?_ (by with_reducible assumption)))))⟩
def Stf (s : Stc) (j : Nat) : Value := if j = 0 then .int .i64 s.ln else if j = 1 then .int .i64 s.ld else if j = 2 then .int .i64 s.hn else if j = 3 then .int .i64 s.hd else if j = 4 then .bool s.lo else .bool s.ho
theorem strow (w : World) (b : Nat) (hb : b = w.heap.size) (t : TypeId) (s : Stc) : Row (w.alloc (.cells #[.int .i64 s.ln, .int .i64 s.ld, .int .i64 s.hn, .int .i64 s.hd, .bool s.lo, .bool s.ho] t)) b 6 (Stf s) := by
  subst hb
  refine Row.of_cells fun j hj => ?_
  have h : j = 0 ∨ j = 1 ∨ j = 2 ∨ j = 3 ∨ j = 4 ∨ j = 5 := by omega
  rcases h with rfl | rfl | rfl | rfl | rfl | rfl <;> rfl
theorem stcells {w : World} {b : Nat} {s : Stc} (h : Row w b 6 (Stf s)) : w.cell? ⟨b, 0, none⟩ = some (.int .i64 s.ln) ∧ w.cell? ⟨b, 1, none⟩ = some (.int .i64 s.ld) ∧ w.cell? ⟨b, 2, none⟩ = some (.int .i64 s.hn) ∧ w.cell? ⟨b, 3, none⟩ = some (.int .i64 s.hd) ∧ w.cell? ⟨b, 4, none⟩ = some (.bool s.lo) ∧ w.cell? ⟨b, 5, none⟩ = some (.bool s.ho) ∧ b < w.heap.size :=
  ⟨h.1 0 (by omega), h.1 1 (by omega), h.1 2 (by omega), h.1 3 (by omega), h.1 4 (by omega), h.1 5 (by omega), h.2.2⟩
section
variable {w : World} {b : Nat} {s : Stc}
theorem st_low (h : Row w b 6 (Stf s)) (n d : Int) (o : Bool) : Row (((w.setCell ⟨b, 0, none⟩ (.int .i64 n)).setCell ⟨b, 1, none⟩ (.int .i64 d)).setCell ⟨b, 4, none⟩ (.bool o)) b 6 (Stf ⟨n, d, s.hn, s.hd, o, s.ho⟩) := by
  refine (((h.set 0 _).set 1 _).set 4 _).congr fun j hj => ?_
  have hh : j = 0 ∨ j = 1 ∨ j = 2 ∨ j = 3 ∨ j = 4 ∨ j = 5 := by omega
  rcases hh with rfl | rfl | rfl | rfl | rfl | rfl <;> rfl
theorem st_high (h : Row w b 6 (Stf s)) (n d : Int) (o : Bool) : Row (((w.setCell ⟨b, 2, none⟩ (.int .i64 n)).setCell ⟨b, 3, none⟩ (.int .i64 d)).setCell ⟨b, 5, none⟩ (.bool o)) b 6 (Stf ⟨s.ln, s.ld, n, d, s.lo, o⟩) := by
  refine (((h.set 2 _).set 3 _).set 5 _).congr fun j hj => ?_
  have hh : j = 0 ∨ j = 1 ∨ j = 2 ∨ j = 3 ∨ j = 4 ∨ j = 5 := by omega
  rcases hh with rfl | rfl | rfl | rfl | rfl | rfl <;> rfl
theorem st_lo (h : Row w b 6 (Stf s)) (o : Bool) : Row (w.setCell ⟨b, 4, none⟩ (.bool o)) b 6 (Stf ⟨s.ln, s.ld, s.hn, s.hd, o, s.ho⟩) := by
  refine (h.set 4 _).congr fun j hj => ?_
  have hh : j = 0 ∨ j = 1 ∨ j = 2 ∨ j = 3 ∨ j = 4 ∨ j = 5 := by omega
  rcases hh with rfl | rfl | rfl | rfl | rfl | rfl <;> rfl
theorem st_ho (h : Row w b 6 (Stf s)) (o : Bool) : Row (w.setCell ⟨b, 5, none⟩ (.bool o)) b 6 (Stf ⟨s.ln, s.ld, s.hn, s.hd, s.lo, o⟩) := by
  refine (h.set 5 _).congr fun j hj => ?_
  have hh : j = 0 ∨ j = 1 ∨ j = 2 ∨ j = 3 ∨ j = 4 ∨ j = 5 := by omega
  rcases hh with rfl | rfl | rfl | rfl | rfl | rfl <;> rfl
theorem st_none (h : Row w b 6 (Stf s)) : Row ((w.setCell ⟨b, 2, none⟩ (.int .i64 (-1))).setCell ⟨b, 3, none⟩ (.int .i64 1)) b 6 (Stf ⟨s.ln, s.ld, -1, 1, s.lo, s.ho⟩) := by
  refine ((h.set 2 _).set 3 _).congr fun j hj => ?_
  have hh : j = 0 ∨ j = 1 ∨ j = 2 ∨ j = 3 ∨ j = 4 ∨ j = 5 := by omega
  rcases hh with rfl | rfl | rfl | rfl | rfl | rfl <;> rfl
end
/-- What a method of a part leaves: the part, and all else. -/
def StPost (w0 w : World) (b : Nat) (s : Stc) (e : Ending) (w' : World) : Prop := (∃ v, e = .returned v) ∧ Row w' b 6 (Stf s) ∧ Since w0 w' ∧ KeepBut b w w'
end Go.Proofs.Ytckochcocflleaa

/-
  What a call leaves that draws and lays blocks alone: an equation; a store into a map in a region that draws its order.
-/
namespace Go.Proofs.Ytckochcocflleaa
open Go.RowKit Go.Maps
set_option linter.unusedVariables false

/-- Draws, and blocks laid behind: nothing else. -/
def Gr (w w' : World) : Prop := ∃ (q : Nat) (os : Array Obj), w' = Go.Sort.grow (w.drewN q) os
theorem Gr.refl (w : World) : Gr w w := ⟨0, #[], by rw [Go.Sort.grow_empty]; rfl⟩
theorem Gr.alloc {w w' : World} (h : Gr w w') (o : Obj) : Gr w (w'.alloc o) := by
  obtain ⟨q, os, rfl⟩ := h
  exact ⟨q, os ++ #[o], by rw [Go.Sort.alloc_eq_grow, Go.Sort.grow_grow]⟩
theorem Gr.drewN {w w' : World} (h : Gr w w') (n : Nat) : Gr w (w'.drewN n) := by
  obtain ⟨q, os, rfl⟩ := h
  exact ⟨q + n, os, by rw [← World.drewN_drewN]; rfl⟩
theorem Gr.drew {w w' : World} (h : Gr w w') : Gr w w'.drew := h.drewN 1
theorem Gr.trans {a b c : World} (h : Gr a b) (k : Gr b c) : Gr a c := by
  obtain ⟨q, os, rfl⟩ := k
  obtain ⟨n, us, e⟩ := h.drewN q
  rw [e, Go.Sort.grow_grow]
  exact ⟨n, us ++ os, rfl⟩
theorem Gr.since {w w' : World} (h : Gr w w') : Since w w' := by
  obtain ⟨q, os, rfl⟩ := h
  refine since_of ⟨rfl, rfl, rfl, ?_, fun b hb => ?_⟩
  · rw [Go.Sort.size_grow]; exact Nat.le_add_right _ _
  · exact Go.Sort.heap_grow_old (w.drewN q) os hb
theorem gr_start (w0 : World) : (∀ b o, b < w0.heap.size → w0.cell? ⟨b, o, none⟩ = w0.cell? ⟨b, o, none⟩) ∧ (∀ b o, b < w0.heap.size → w0.frozen? ⟨b, o, none⟩ = w0.frozen? ⟨b, o, none⟩) ∧ (∀ k, k < w0.heap.size → k < w0.heap.size) ∧ Below w0.heap.size w0 w0 ∧ Gr w0 w0 :=
  ⟨fun _ _ _ => rfl, fun _ _ _ => rfl, fun _ h => h, Below.refl _ _, Gr.refl _⟩
theorem gr_step {w0 w1 w2 : World} (h : (∀ b o, b < w0.heap.size → w1.cell? ⟨b, o, none⟩ = w0.cell? ⟨b, o, none⟩) ∧ (∀ b o, b < w0.heap.size → w1.frozen? ⟨b, o, none⟩ = w0.frozen? ⟨b, o, none⟩) ∧ (∀ k, k < w0.heap.size → k < w1.heap.size) ∧ Below w0.heap.size w0 w1 ∧ Gr w0 w1) (k : Gr w1 w2) :
    (∀ b o, b < w0.heap.size → w2.cell? ⟨b, o, none⟩ = w0.cell? ⟨b, o, none⟩) ∧ (∀ b o, b < w0.heap.size → w2.frozen? ⟨b, o, none⟩ = w0.frozen? ⟨b, o, none⟩) ∧ (∀ k, k < w0.heap.size → k < w2.heap.size) ∧ Below w0.heap.size w0 w2 ∧ Gr w0 w2 := by
  have g := h.2.2.2.2.trans k
  have s := g.since
  exact ⟨s.1, s.2.1, s.2.2.1, s.2.2.2, g⟩
theorem oper_mapUpdate_own {H : Type} {P : Program} (w : World) {o : Oper} {a : Act} {K : Act → World → Prop} {Q : Exit → Act → World → Prop} (m x v : Operand) (t : TypeId) (hop : o.op = Op.mapUpdate t m x v)
    (k e : TypeId) (KK : Keyed P k) (ht : P.underlying t = some (.map k e)) (R : Value → Option (DataW H × List MemPlace)) (b n : Nat) (D : DataW H)
    (hm : a.eval m = .map (some b)) (hown : w.ownsMap P k R b n D) (hn : n < maxLen) (key val : Value) (kl : Lit) (hx : a.eval x = key) (hv : a.eval v = val) (hkey : keyOf P k key = some kl)
    (d : DataW H) (ps : List MemPlace) (hval : R val = some (d, ps))
    (hK : ∀ w', w'.ownsMap P k R b (n + 1) (D.put kl d) → w.grownBy w' (some b) → K (a.put o.dst undef) w') :
    Oper.wp P o a w K Q := by
  obtain ⟨w', hrun, r1, r2⟩ := hown.update KK ht hn hkey hval
  unfold Oper.wp
  simp [execOp, hop, hm, hx, hv, hrun, Result.andThen]
  exact hK w' r1 r2
end Go.Proofs.Ytckochcocflleaa
