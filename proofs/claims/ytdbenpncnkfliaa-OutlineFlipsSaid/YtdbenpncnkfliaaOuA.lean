/-
  Layer 11: middles, program and reference, walked.
-/
import Derived.Test.YtdbenpncnkfliaaQuH
import Derived.Test.YtdbenpncnkfliaaKitB
namespace Go.Proofs.Ytdbenpncnkfliaa
open Go.RowKit
set_option linter.unusedVariables false

theorem nat_xor_and : ∀ (x y : Nat), x + y = (x ^^^ y) + 2 * (x &&& y) := by
  intro x
  induction x using Nat.strongRecOn with
  | _ x ih =>
    intro y
    by_cases hx : x = 0
    · subst hx; simp
    · have h := ih (x / 2) (by omega) (y / 2)
      have e1 : (x ^^^ y) / 2 = x / 2 ^^^ y / 2 := Nat.xor_div_two
      have e2 : (x &&& y) / 2 = x / 2 &&& y / 2 := Nat.and_div_two
      have e3 : (x ^^^ y) % 2 = (x % 2) ^^^ (y % 2) := Nat.xor_mod_two_pow (n := 1)
      have e4 : (x &&& y) % 2 = (x % 2) &&& (y % 2) := Nat.and_mod_two_pow (n := 1)
      rw [← e1, ← e2] at h
      clear e1 e2
      have hx2 : x % 2 = 0 ∨ x % 2 = 1 := by omega
      have hy2 : y % 2 = 0 ∨ y % 2 = 1 := by omega
      rcases hx2 with h1 | h1 <;> rcases hy2 with h2 | h2 <;> rw [h1, h2] at e3 e4 <;> simp only [Nat.reduceXor, Nat.reduceAnd] at e3 e4 <;> omega
theorem toInt_sum (A B : BitVec 64) : A.toInt + B.toInt = (A ^^^ B).toInt + 2 * (A &&& B).toInt := by
  have h := nat_xor_and (A.signExtend 66).toNat (B.signExtend 66).toNat
  rw [← BitVec.toNat_xor, ← BitVec.toNat_and, ← BitVec.signExtend_xor, ← BitVec.signExtend_and] at h
  have k : ∀ C : BitVec 64, ((C.signExtend 66).toNat : Int) = C.toInt ∨ ((C.signExtend 66).toNat : Int) = C.toInt + 73786976294838206464 := fun C => by
    have e := BitVec.toInt_signExtend_of_le (x := C) (v := 66) (by omega)
    rw [← e, BitVec.toInt_eq_toNat_cond]
    split <;> omega
  have r : ∀ C : BitVec 64, -9223372036854775808 ≤ C.toInt ∧ C.toInt < 9223372036854775808 := fun C => by
    have h1 := BitVec.le_toInt C; have h2 := BitVec.toInt_lt (x := C)
    simp at h1 h2
    omega
  have kA := k A; have kB := k B; have kX := k (A ^^^ B); have kN := k (A &&& B)
  have rA := r A; have rB := r B; have rX := r (A ^^^ B); have rN := r (A &&& B)
  omega
theorem wrap_toInt (X : BitVec 64) : IntKind.i64.wrap (X.toNat : Int) = X.toInt := by
  rw [IntKind.wrap_i64, BitVec.toInt_eq_toNat_cond]
  have := X.isLt
  split <;> omega
theorem toInt_of {a : Int} (h : In64 a) : (BitVec.ofInt 64 a).toInt = a := by
  rw [BitVec.toInt_ofInt]
  unfold In64 at h
  rw [Int.bmod_def]
  split <;> omega
theorem mid_bits {a b : Int} (ha : In64 a) (hb : In64 b) : a + b = bits .xor .i64 a b + 2 * bits .and .i64 a b ∧ In64 (bits .xor .i64 a b) ∧ In64 (bits .and .i64 a b) := by
  have e1 : bits .xor .i64 a b = (BitVec.ofInt 64 a ^^^ BitVec.ofInt 64 b).toInt := wrap_toInt _
  have e2 : bits .and .i64 a b = (BitVec.ofInt 64 a &&& BitVec.ofInt 64 b).toInt := wrap_toInt _
  have h := toInt_sum (BitVec.ofInt 64 a) (BitVec.ofInt 64 b)
  rw [toInt_of ha, toInt_of hb] at h
  have r : ∀ C : BitVec 64, In64 C.toInt := fun C => by
    have h1 := BitVec.le_toInt C; have h2 := BitVec.toInt_lt (x := C)
    unfold In64
    simp at h1 h2
    omega
  rw [e1, e2]
  exact ⟨h, r _, r _⟩
set_option maxRecDepth 100000 in
theorem ou_middle (a b : Int) (ha : In64 a) (hb : In64 b) (w : World) :
    Calls Try.prog 50 #[.int .i64 a, .int .i64 b] w fun e w' => e = .returned (.int .i64 ((a + b) / 2)) ∧ Since w w' := by
  obtain ⟨h1, h2, h3⟩ := mid_bits ha hb
  unfold In64 at *
  have w1 : IntKind.i64.wrap (bits .xor .i64 a b / 2) = bits .xor .i64 a b / 2 := IntWalk.i64_in _ (by omega)
  have w2 : IntKind.i64.wrap (bits .and .i64 a b + bits .xor .i64 a b / 2) = (a + b) / 2 := by rw [IntWalk.i64_in _ (by omega)]; omega
  clear h1 h2 h3 ha hb
  go_enter Try.func50, Try.ntmps50
  go_wp2
  go_ret
  exact ⟨by first | rfl | simp_all, by (repeat (first | with_reducible (exact Since.refl _) | with_reducible assumption | with_reducible (refine Since.drew ?_) | with_reducible (refine Since.drewN ?_ _) | with_reducible (refine Since.alloc ?_ _) | (with_reducible (refine Since.setCell ?_ ?_ _); rotate_left; focus (first | (simp; done) | (simp; omega) | omega)) | (with_reducible (refine Since.trans ?_ (by with_reducible assumption)))))⟩
end Go.Proofs.Ytdbenpncnkfliaa
