/-
  Layer 11: slices of knots; slices.IndexFunc, walked.
-/
import Derived.Test.YtdbenpncnkfliaaOuB
namespace Go.Proofs.Ytdbenpncnkfliaa
open Go.RowKit
set_option linter.unusedVariables false

/-- A slice's n knots, in a block below B (nil and empty let in). -/
def RdK (w : World) (B : Nat) (A : Option Addr) (n : Nat) (X Y : Nat → Int) (O : Nat → Bool) : Prop :=
  0 < n → ∃ b o, A = some ⟨b, o, none⟩ ∧ b < B ∧ ∀ j, j < n → w.cell? ⟨b, o + j * 3, none⟩ = some (.int .i64 (X j)) ∧ w.cell? ⟨b, o + j * 3 + 1, none⟩ = some (.int .i64 (Y j)) ∧ w.cell? ⟨b, o + j * 3 + 2, none⟩ = some (.bool (O j))
section
variable {w w' : World} {B B' n : Nat} {A : Option Addr} {X Y : Nat → Int} {O : Nat → Bool}
theorem RdK.zero : RdK w B A 0 X Y O := fun h => absurd h (by omega)
theorem RdK.keep (h : RdK w B A n X Y O) (hk : ∀ b o, b < B → w'.cell? ⟨b, o, none⟩ = w.cell? ⟨b, o, none⟩) : RdK w' B A n X Y O := fun hn => by
  obtain ⟨b, o, rfl, hb, hc⟩ := h hn
  exact ⟨b, o, rfl, hb, fun j hj => ⟨(hk _ _ hb).trans (hc j hj).1, (hk _ _ hb).trans (hc j hj).2.1, (hk _ _ hb).trans (hc j hj).2.2⟩⟩
theorem RdK.more (h : RdK w B A n X Y O) (hB : B ≤ B') : RdK w B' A n X Y O := fun hn => by
  obtain ⟨b, o, rfl, hb, hc⟩ := h hn
  exact ⟨b, o, rfl, by omega, hc⟩
theorem RdK.on (h : RdK w w.heap.size A n X Y O) (k : Since w w') : RdK w' w'.heap.size A n X Y O := (h.keep fun b o hb => k.1 b o hb).more k.below.size
end
/-- The first knot on the curve among those from k on; n if there is none. -/
def firstFrom (O : Nat → Bool) (n : Nat) : Nat → Nat → Nat
  | 0, k => n
  | f + 1, k => if k < n then (if O k then k else firstFrom O n f (k + 1)) else n
def firstOn (O : Nat → Bool) (n : Nat) : Nat := firstFrom O n n 0
theorem firstFrom_is (O : Nat → Bool) (n : Nat) : ∀ f k, n ≤ f + k → k ≤ n → (∀ j, j < k → O j = false) → (firstFrom O n f k ≤ n ∧ (∀ j, j < firstFrom O n f k → O j = false) ∧ (firstFrom O n f k < n → O (firstFrom O n f k) = true))
  | 0, k, h, hk, ha => by
    obtain rfl : k = n := by omega
    exact ⟨Nat.le_refl _, ha, fun h => absurd h (Nat.lt_irrefl _)⟩
  | f + 1, k, h, hk, ha => by
    unfold firstFrom
    by_cases hlt : k < n
    · rw [if_pos hlt]
      cases ho : O k with
      | true => rw [if_pos rfl]; exact ⟨hk, ha, fun _ => ho⟩
      | false =>
        rw [if_neg (by simp)]
        refine firstFrom_is O n f (k + 1) (by omega) (by omega) (fun j hj => ?_)
        by_cases e : j = k
        · subst e; exact ho
        · exact ha j (by omega)
    · obtain rfl : k = n := by omega
      rw [if_neg hlt]
      exact ⟨Nat.le_refl _, ha, fun h => absurd h (Nat.lt_irrefl _)⟩
theorem firstOn_is (O : Nat → Bool) (n : Nat) : firstOn O n ≤ n ∧ (∀ j, j < firstOn O n → O j = false) ∧ (firstOn O n < n → O (firstOn O n) = true) :=
  firstFrom_is O n n 0 (by omega) (by omega) (fun j hj => absurd hj (by omega))
theorem firstOn_eq {O : Nat → Bool} {n k : Nat} (hk : k < n) (ha : ∀ j, j < k → O j = false) (ho : O k = true) : firstOn O n = k := by
  obtain ⟨h1, h2, h3⟩ := firstOn_is O n
  rcases Nat.lt_trichotomy (firstOn O n) k with h | h | h
  · have := h3 (by omega); rw [ha _ h] at this; cases this
  · exact h
  · have := h2 k h; rw [ho] at this; cases this
theorem firstOn_none {O : Nat → Bool} {n : Nat} (ha : ∀ j, j < n → O j = false) : firstOn O n = n := by
  obtain ⟨h1, h2, h3⟩ := firstOn_is O n
  rcases Nat.lt_or_ge (firstOn O n) n with h | h
  · have := h3 h; rw [ha _ h] at this; cases this
  · omega
def idxI (O : Nat → Bool) (n : Nat) : Int := if firstOn O n < n then firstOn O n else -1
set_option maxRecDepth 100000 in
set_option maxHeartbeats 4000000 in
theorem ou_index (A : Option Addr) (n c : Nat) (X Y : Nat → Int) (O : Nat → Bool) (w : World) (h : RdK w w.heap.size A n X Y O) (hn : n ≤ maxLen) :
    Calls Try.prog 46 #[.slice A n c, .func (.func 47) #[] #[]] w fun e w' => e = .returned (.int .i64 (idxI O n)) ∧ Since w w' := by
  have hn' : (n : Int) ≤ 9223372036854775807 := by simp only [maxLen] at hn; omega
  have hon := fun x y o w => ou_on x y o w
  unfold Kn at hon
  have HO := Lib.hid hon
  clear hon
  go_enter Try.func46, Try.ntmps46
  go_wp2
  go_loopw [8] (fun y wr => ∃ j : Nat, j ≤ n ∧ y = .int .i64 (j : Int) ∧ Hid (∀ i, i < j → O i = false) ∧ Since w wr) (fun y _ => n - (intOf y).toNat)
  case atStart => exact ⟨0, by omega, rfl, Lib.hid (fun i hi => absurd hi (by omega)), Since.refl _⟩
  case round =>
    obtain ⟨j, hj, rfl, HA, hSr⟩ := hrel
    by_cases hjn : j < n
    · have hjn' : (j : Int) < n := by omega
      obtain ⟨b, o, rfl, hb, hc⟩ := h (by omega)
      have c1 : wr.cell? ⟨b, o + j * 3, none⟩ = some (.int .i64 (X j)) := (hSr.1 _ _ hb).trans (hc j hjn).1
      have c2 : wr.cell? ⟨b, o + j * 3 + 1, none⟩ = some (.int .i64 (Y j)) := (hSr.1 _ _ hb).trans (hc j hjn).2.1
      have c3 : wr.cell? ⟨b, o + j * 3 + 2, none⟩ = some (.bool (O j)) := (hSr.1 _ _ hb).trans (hc j hjn).2.2
      have hblt : b < wr.heap.size := by have := hSr.below.size; omega
      clear hc h
      cases ho : O j
      · rw [ho] at c3
        go_wp2_with (go_at_call 47; (with_reducible refine (HO.out _ _ _ _).mono ?_); rintro e w1 ⟨rfl, hS1⟩)
        go_roundw
        case rel => exact ⟨j + 1, by omega, by go_num, Lib.hid (fun i hi => by
          by_cases e : i = j
          · subst e; exact ho
          · exact HA.out i (by omega)), hSr.trans hS1⟩
        case measure => simp [intOf]; omega
      · rw [ho] at c3
        go_wp2_with (go_at_call 47; (with_reducible refine (HO.out _ _ _ _).mono ?_); rintro e w1 ⟨rfl, hS1⟩)
        go_ret
        refine ⟨?_, hSr.trans hS1⟩
        unfold idxI
        rw [firstOn_eq hjn HA.out ho, if_pos hjn]
        rfl
    · obtain rfl : j = n := by omega
      clear h
      go_wp2
      go_ret
      refine ⟨?_, hSr⟩
      unfold idxI
      rw [firstOn_none HA.out, if_neg (Nat.lt_irrefl _)]
      rfl
end Go.Proofs.Ytdbenpncnkfliaa
