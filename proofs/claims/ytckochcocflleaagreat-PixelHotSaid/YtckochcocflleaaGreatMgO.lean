/-
  Texts of this seat, put together: each with its own head.
-/
import Derived.Test.YtckochcocflleaaGreatMgR
import Derived.Test.YtckochcocflleaaGreatDiv

/-
  The document's products of numbers of eight digits, walked.
-/
namespace Go.Proofs.YtckochcocflleaaGreat
open Go.RowKit
set_option linter.unusedVariables false

/-- After k digits of a: V is what they make of b, up to 2^128. -/
def MulOut (a b : Int) (k : Nat) (V : Int) : Prop := ∃ z : Int, V = a % B k * b + z * B 8
/-- Within digit k: after m digits of b. -/
def MulIn (a b : Int) (k : Nat) (N : Int) (m : Nat) (V c : Int) : Prop := V + c * B (k + m) = N + dg a k * B k * (b % B m)
theorem mulIn_start (a b : Int) (k : Nat) (N : Int) : MulIn a b k N 0 N 0 := by
  unfold MulIn
  have : b % B 0 = 0 := Int.emod_one b
  rw [this]; simp
theorem mulIn_step {a b : Int} {k : Nat} {N : Int} {m : Nat} {V c : Int} (h : MulIn a b k N m V c) :
    MulIn a b k N (m + 1) (V + ((dg a k * dg b m + dg V (k + m) + c) % 65536 - dg V (k + m)) * B (k + m)) ((dg a k * dg b m + dg V (k + m) + c) / 65536) := by
  unfold MulIn at *
  rw [show k + (m + 1) = k + m + 1 from rfl, B_succ, low_succ b m]
  have e1 : dg a k * B k * (dg b m * B m + b % B m) = dg a k * dg b m * B (k + m) + dg a k * B k * (b % B m) := by
    rw [Int.mul_add, B_add]
    congr 1
    rw [Int.mul_assoc, Int.mul_assoc, Int.mul_left_comm (B k)]
  rw [e1]
  generalize dg a k * dg b m = p at *
  generalize dg V (k + m) = x at *
  generalize dg a k * B k * (b % B m) = y at *
  have e2 : (p + x + c) / 65536 * (B (k + m) * 65536) = (p + x + c - (p + x + c) % 65536) * B (k + m) := by
    have := Int.mul_ediv_add_emod (p + x + c) 65536
    rw [Int.mul_comm (B (k + m)) 65536, ← Int.mul_assoc, Int.mul_comm _ 65536]
    congr 1; omega
  rw [e2]
  generalize (p + x + c) % 65536 = s at *
  have e3 : V + (s - x) * B (k + m) + (p + x + c - s) * B (k + m) = V + (p + c) * B (k + m) := by
    rw [Int.add_assoc, ← Int.add_mul]; congr 2; omega
  rw [e3, Int.add_mul]
  omega
theorem mulIn_end {a b : Int} {k : Nat} {N : Int} {m : Nat} {V c : Int} (hk : k + m = 8) (ho : MulOut a b k N) (h : MulIn a b k N m V c) : MulOut a b (k + 1) V := by
  obtain ⟨z, hz⟩ := ho
  unfold MulIn at h
  rw [hk] at h
  have e := Int.mul_ediv_add_emod b (B m)
  refine ⟨z - c - dg a k * (b / B m), ?_⟩
  rw [low_succ a k, Int.add_mul]
  have e1 : dg a k * B k * (b % B m) = dg a k * B k * b - dg a k * (b / B m) * B 8 := by
    rw [← hk, B_add]
    have : b % B m = b - B m * (b / B m) := by omega
    rw [this, Int.mul_sub]
    congr 1
    rw [Int.mul_assoc, Int.mul_assoc]; congr 1
    rw [Int.mul_left_comm, Int.mul_comm (B m), Int.mul_left_comm, Int.mul_assoc, Int.mul_left_comm] <;> skip
  rw [e1] at h
  rw [Int.sub_mul, Int.sub_mul]
  generalize dg a k * (b / B m) * B 8 = q at *
  generalize dg a k * B k * b = r at *
  omega
theorem mul_done {a b V : Int} (h : MulOut a b 8 V) (j : Nat) (hj : j < 8) : dg V j = dg (a * b) j := by
  obtain ⟨z, hz⟩ := h
  have e8 : B 8 = 340282366920938463463374607431768211456 := rfl
  have e := Int.mul_ediv_add_emod a (B 8)
  have e2 : a * b = V + (a / B 8 * b - z) * B 8 := by
    rw [hz]
    have : a = a % B 8 + B 8 * (a / B 8) := by omega
    conv => lhs; rw [this]
    rw [Int.add_mul, Int.sub_mul, Int.mul_assoc, Int.mul_comm (B 8)]
    omega
  rw [← dg_mod V j hj, ← dg_mod (a * b) j hj, e2, e8, Int.add_mul_emod_self_right]
theorem mul_bd (x y : Int) (h0 : 0 ≤ x) (h1 : x < 65536) (k0 : 0 ≤ y) (k1 : y < 65536) : 0 ≤ x * y ∧ x * y ≤ 4294836225 := by
  have : x * y ≤ 65535 * 65535 := Int.mul_le_mul (by omega) (by omega) k0 (by omega)
  exact ⟨Int.mul_nonneg h0 k0, by omega⟩

set_option maxHeartbeats 400000 in
theorem ref_mul (a b : Int) (w : World) :
    Calls Tryz.prog 74 #[D a, D b] w fun e w' => e = .returned (D (a * b)) ∧ Since w w' := by
  go_enter Tryz.func74, Tryz.ntmps74
  go_wp2
  go_loopw [6] (fun i wr => ∃ (k : Nat) (V : Int), k ≤ 8 ∧ i = .int .i64 k ∧ MulOut a b k V ∧ Since w wr ∧ Row wr w.heap.size 8 (fun j => .int .u32 (dg a j)) ∧ Row wr (w.heap.size + 1) 8 (fun j => .int .u32 (dg b j)) ∧ Row wr (w.heap.size + 1 + 1) 8 (fun j => .int .u32 0) ∧ Row wr (w.heap.size + 1 + 1 + 1) 8 (fun j => .int .u32 (dg V j))) (fun i _ => 8 - (intOf i).toNat)
  case atStart =>
    refine ⟨0, 0, by omega, rfl, ⟨0, by have : a % B 0 = 0 := Int.emod_one a; rw [this]; simp⟩, by (repeat (first | with_reducible (exact Since.refl _) | with_reducible assumption | with_reducible (refine Since.drew ?_) | with_reducible (refine Since.drewN ?_ _) | with_reducible (refine Since.alloc ?_ _) | (with_reducible (refine Since.setCell ?_ ?_ _); rotate_left; focus (first | (simp; done) | (simp; omega) | omega)) | (with_reducible (refine Since.trans ?_ (by with_reducible assumption))))), ?_, ?_, ?_, ?_⟩
    · exact (((row8 w _ rfl _ (dg a)).alloc _).alloc _).alloc _
    · exact ((row8 _ _ (by simp) _ (dg b)).alloc _).alloc _
    · exact (row8 _ _ (by simp) _ (fun _ => 0)).alloc _
    · exact (row8 _ _ (by simp) _ (fun _ => 0)).congr fun j hj => by simp [dg]
  case round =>
    obtain ⟨k, N, hk, rfl, hO, hS, hA, hB, hC, hN⟩ := hrel
    obtain ⟨hA1, hA2, hA3⟩ := id hA; obtain ⟨hB1, hB2, hB3⟩ := id hB; obtain ⟨hC1, hC2, hC3⟩ := id hC; obtain ⟨hN1, hN2, hN3⟩ := id hN
    by_cases hlt : k < 8
    · obtain ⟨wo, rfl⟩ : ∃ wo : World, wo = wr := ⟨_, rfl⟩
      go_wp2
      go_loopw [7, 8] (fun c j wr => ∃ (m : Nat) (V C : Int), k + m ≤ 8 ∧ j = .int .i64 m ∧ c = .int .u32 C ∧ 0 ≤ C ∧ C ≤ 65535 ∧ MulIn a b k N m V C ∧ Since w wr ∧ Row wr w.heap.size 8 (fun j => .int .u32 (dg a j)) ∧ Row wr (w.heap.size + 1) 8 (fun j => .int .u32 (dg b j)) ∧ Row wr (w.heap.size + 1 + 1) 8 (fun j => .int .u32 0) ∧ Row wr (w.heap.size + 1 + 1 + 1) 8 (fun j => .int .u32 (dg V j))) (fun _ j _ => 8 - (intOf j).toNat)
      case atStart => exact ⟨0, N, 0, by omega, rfl, rfl, by omega, by omega, mulIn_start a b k N, hS, hA, hB, hC, hN⟩
      case round =>
        clear hS hA hB hC hN hA1 hA2 hA3 hB1 hB2 hB3 hC1 hC2 hC3 hN1 hN2 hN3
        obtain ⟨m, V, C, hm, rfl, rfl, c0, c1, hI, hS, hA, hB, hC, hN⟩ := hrel
        obtain ⟨hA1, hA2, hA3⟩ := id hA; obtain ⟨hB1, hB2, hB3⟩ := id hB; obtain ⟨hC1, hC2, hC3⟩ := id hC; obtain ⟨hN1, hN2, hN3⟩ := id hN
        by_cases hlt2 : k + m < 8
        · have hstep := mulIn_step hI
          obtain ⟨a1, a2⟩ := dg_bd a k; obtain ⟨b1, b2⟩ := dg_bd b m; obtain ⟨d1, d2⟩ := dg_bd V (k + m)
          obtain ⟨p1, p2⟩ := mul_bd _ _ a1 a2 b1 b2
          have hm8 : m < 8 := by omega
          have hput := fun v (v0 : 0 ≤ v) (v1 : v < 65536) j => dg_put V v (k + m) j v0 v1
          have Hput := Lib.hid hput
          have q0 : 0 ≤ (dg a k * dg b m + dg V (k + m) + C) % 65536 := by omega
          have q1 : (dg a k * dg b m + dg V (k + m) + C) % 65536 < 65536 := by omega
          have r0 : 0 ≤ (dg a k * dg b m + dg V (k + m) + C) / 65536 := by omega
          have r1 : (dg a k * dg b m + dg V (k + m) + C) / 65536 ≤ 65535 := by omega
          clear hput hO hI
          go_wp2
          go_quiet (fail)
          go_wp2
          refine ⟨⟨m + 1, _, _, by omega, by go_num, rfl, r0, r1, hstep, by (repeat (first | with_reducible (exact Since.refl _) | with_reducible assumption | with_reducible (refine Since.drew ?_) | with_reducible (refine Since.drewN ?_ _) | with_reducible (refine Since.alloc ?_ _) | (with_reducible (refine Since.setCell ?_ ?_ _); rotate_left; focus (first | (simp; done) | (simp; omega) | omega)) | (with_reducible (refine Since.trans ?_ (by with_reducible assumption))))), by (repeat (first | with_reducible assumption | with_reducible (refine Row.drewN ?_ _) | with_reducible (refine Row.drew ?_) | with_reducible (refine Row.alloc ?_ _) | (with_reducible (refine Row.far ?_ ?_ _ _); rotate_left; focus (first | (simp; done) | (simp; omega) | omega)) | with_reducible (refine Row.since ?_ (by with_reducible assumption)))), by (repeat (first | with_reducible assumption | with_reducible (refine Row.drewN ?_ _) | with_reducible (refine Row.drew ?_) | with_reducible (refine Row.alloc ?_ _) | (with_reducible (refine Row.far ?_ ?_ _ _); rotate_left; focus (first | (simp; done) | (simp; omega) | omega)) | with_reducible (refine Row.since ?_ (by with_reducible assumption)))), by (repeat (first | with_reducible assumption | with_reducible (refine Row.drewN ?_ _) | with_reducible (refine Row.drew ?_) | with_reducible (refine Row.alloc ?_ _) | (with_reducible (refine Row.far ?_ ?_ _ _); rotate_left; focus (first | (simp; done) | (simp; omega) | omega)) | with_reducible (refine Row.since ?_ (by with_reducible assumption)))), ?_⟩, by simp [intOf] <;> omega⟩
          refine ((hN.drewN _).set _ _).congr fun j hj => ?_
          rw [Hput.out _ q0 q1 j]
          split <;> rfl
        · have hout := mulIn_end (by omega) hO hI
          clear hO hI
          go_wp2
          exact ⟨⟨k + 1, V, by omega, by go_num, hout, hS, hA, hB, hC, hN⟩, by simp [intOf] <;> omega⟩
    · obtain rfl : k = 8 := by omega
      have hu := fun j (hj : j < 8) => mul_done hO j hj
      go_wp2
      refine bodyPost_ret (by simp only [results, Tryz.results74]; go_simp) rfl ⟨rfl, ?_⟩
      (repeat (first | with_reducible (exact Since.refl _) | with_reducible assumption | with_reducible (refine Since.drew ?_) | with_reducible (refine Since.drewN ?_ _) | with_reducible (refine Since.alloc ?_ _) | (with_reducible (refine Since.setCell ?_ ?_ _); rotate_left; focus (first | (simp; done) | (simp; omega) | omega)) | (with_reducible (refine Since.trans ?_ (by with_reducible assumption)))))
end Go.Proofs.YtckochcocflleaaGreat

/-
  The program's square root over this translation: bit by bit.
-/
namespace Go.Proofs.YtckochcocflleaaGreat
open Go.RowKit
set_option linter.unusedVariables false

/-- r is the square root of a, rounded down. -/
def IsRoot (a r : Int) : Prop := 0 ≤ r ∧ r * r ≤ a ∧ a < (r + 1) * (r + 1)

/-- After k bits: R is a root of a up to the bits to come. -/
def RootRel (a : Int) (k : Nat) (R : Int) : Prop := (∃ m : Int, 0 ≤ m ∧ R = m * 2 ^ (64 - k)) ∧ R * R ≤ a ∧ a < (R + 2 ^ (64 - k)) * (R + 2 ^ (64 - k)) ∧ R + 2 ^ (64 - k) ≤ 18446744073709551616

theorem root_start {a : Int} (ha : In128 a) (hn : 0 ≤ a) : RootRel a 0 0 := by
  unfold In128 at ha
  exact ⟨⟨0, by omega, by omega⟩, by omega, by simp; omega, by simp⟩
theorem two_half {k : Nat} (h : k < 64) : (2 : Int) ^ (64 - k) = 2 * 2 ^ (63 - k) := by
  rw [show 64 - k = (63 - k) + 1 by omega, Int.pow_succ, Int.mul_comm]
theorem root_more {a R : Int} {k : Nat} (h : k < 64) (hR : RootRel a k R) : bits .or .u64 R (IntKind.u64.wrap (2 ^ (63 - k))) = R + 2 ^ (63 - k) ∧ 0 ≤ R + 2 ^ (63 - k) ∧ R + 2 ^ (63 - k) < 18446744073709551616 := by
  obtain ⟨⟨m, m0, e⟩, _, _, h4⟩ := hR
  have hp := two_half h
  have hp0 : 0 < (2 : Int) ^ (63 - k) := Int.pow_pos (by omega)
  have hR0 : 0 ≤ R := by rw [e]; exact Int.mul_nonneg m0 (by omega)
  rw [hp] at h4
  have hw : IntKind.u64.wrap (2 ^ (63 - k)) = 2 ^ (63 - k) := u64_of (by omega) (by omega)
  rw [hw]
  refine ⟨?_, by omega, by omega⟩
  have := or_parts m (2 ^ (63 - k)) (64 - k) m0 (by omega) (by omega) (by rw [← e]; omega)
  rw [e]; exact this
theorem root_yes {a R : Int} {k : Nat} (h : k < 64) (hR : RootRel a k R) (hs : sqx (R + 2 ^ (63 - k)) a = false) : RootRel a (k + 1) (R + 2 ^ (63 - k)) := by
  obtain ⟨⟨m, m0, e⟩, h2, h3, h4⟩ := hR
  have hp := two_half h
  have e1 : 64 - (k + 1) = 63 - k := by omega
  have e2 : R + 2 ^ (63 - k) + 2 ^ (63 - k) = R + 2 ^ (64 - k) := by rw [hp]; omega
  refine ⟨⟨2 * m + 1, by omega, ?_⟩, ?_, ?_, ?_⟩
  · rw [e1, e, hp, Int.add_mul, Int.one_mul, Int.mul_left_comm m, Int.mul_assoc 2 m]
  · unfold sqx at hs; simpa using hs
  · rw [e1, e2]; exact h3
  · rw [e1, e2]; exact h4
theorem root_not {a R : Int} {k : Nat} (h : k < 64) (hR : RootRel a k R) (hs : sqx (R + 2 ^ (63 - k)) a = true) : RootRel a (k + 1) R := by
  obtain ⟨⟨m, m0, e⟩, h2, h3, h4⟩ := hR
  have hp := two_half h
  have hp0 : 0 < (2 : Int) ^ (63 - k) := Int.pow_pos (by omega)
  have e1 : 64 - (k + 1) = 63 - k := by omega
  refine ⟨⟨2 * m, by omega, ?_⟩, h2, ?_, ?_⟩
  · rw [e1, e, hp, Int.mul_left_comm m, Int.mul_assoc 2 m]
  · rw [e1]; unfold sqx at hs; simpa using hs
  · rw [e1]; omega
theorem root_end {a R : Int} (hR : RootRel a 64 R) : IsRoot a R ∧ R < 18446744073709551616 := by
  obtain ⟨⟨m, m0, e⟩, h2, h3, h4⟩ := hR
  simp at e h3 h4
  subst e
  exact ⟨⟨m0, h2, h3⟩, by omega⟩

end Go.Proofs.YtckochcocflleaaGreat
