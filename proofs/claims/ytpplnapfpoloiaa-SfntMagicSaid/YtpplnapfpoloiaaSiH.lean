/-
  Layer 7: the lists' steps as loops take them. No walk.
-/
import Derived.Test.YtpplnapfpoloiaaSiB
namespace Go.Proofs.Ytpplnapfpoloiaa
open Go.RowKit
set_option linter.unusedVariables false
set_option linter.unusedSimpArgs false

/-- A row of the same flags, found by looking ahead. -/
theorem run7_is (f : Int) : ∀ (k : Nat) (l : List Int) (j : Nat), j ≤ k → j ≤ l.length → (∀ i, i < j → l.getD i 0 = f) → (j = k ∨ j = l.length ∨ l.getD j 0 ≠ f) → run7 f k l = j := by
  intro k
  induction k with
  | zero => intro l j h1 _ _ _; obtain rfl : j = 0 := by omega
            simp [run7]
  | succ k ih =>
    intro l j h1 h2 h3 h4
    cases l with
    | nil => simp at h2; subst h2; simp [run7]
    | cons g r =>
      unfold run7
      cases j with
      | zero =>
        rcases h4 with h | h | h
        · cases h
        · simp at h
        · rw [if_neg (by simpa using h)]
      | succ j =>
        have hg : g = f := by simpa using h3 0 (by omega)
        rw [if_pos hg, ih r j (by omega) (by simpa using h2) (fun i hi => by simpa using h3 (i + 1) (by omega)) (by
          rcases h4 with h | h | h
          · exact .inl (by omega)
          · exact .inr (.inl (by simpa using h))
          · exact .inr (.inr (by simpa using h)))]
theorem pl_cons (f : Nat → Int) (n : Nat) (is sm g : Int) (r : List Int) (v : Int) (p : Nat) : plGo f n is sm (g :: r) v p =
    if n < p + sw7 is sm g then ⟨3, [], 0⟩
    else if ¬ Sh (v + sv7 f is sm g p) then ⟨6, [], 0⟩
    else if (plGo f n is sm r (v + sv7 f is sm g p) (p + sw7 is sm g)).e ≠ 0 then ⟨(plGo f n is sm r (v + sv7 f is sm g p) (p + sw7 is sm g)).e, [], 0⟩
    else ⟨0, (v + sv7 f is sm g p) :: (plGo f n is sm r (v + sv7 f is sm g p) (p + sw7 is sm g)).L, (plGo f n is sm r (v + sv7 f is sm g p) (p + sw7 is sm g)).p⟩ := rfl
/-- One number more is read. -/
theorem pl_step {f : Nat → Int} {n : Nat} {is sm : Int} {g : Int} {r : List Int} {v : Int} {p : Nat} (h : (plGo f n is sm (g :: r) v p).e = 0) :
    p + sw7 is sm g ≤ n ∧ Sh (v + sv7 f is sm g p) ∧ (plGo f n is sm r (v + sv7 f is sm g p) (p + sw7 is sm g)).e = 0 ∧
    (plGo f n is sm (g :: r) v p).L = (v + sv7 f is sm g p) :: (plGo f n is sm r (v + sv7 f is sm g p) (p + sw7 is sm g)).L ∧ (plGo f n is sm (g :: r) v p).p = (plGo f n is sm r (v + sv7 f is sm g p) (p + sw7 is sm g)).p := by
  rw [pl_cons] at h ⊢
  by_cases h1 : n < p + sw7 is sm g
  · rw [if_pos h1] at h; cases h
  · by_cases h2 : ¬ Sh (v + sv7 f is sm g p)
    · rw [if_neg h1, if_pos h2] at h; cases h
    · by_cases h3 : (plGo f n is sm r (v + sv7 f is sm g p) (p + sw7 is sm g)).e ≠ 0
      · rw [if_neg h1, if_neg h2, if_pos h3] at h; exact absurd h h3
      · rw [if_neg h1, if_neg h2, if_neg h3]
        exact ⟨by omega, Decidable.not_not.1 h2, Decidable.not_not.1 h3, rfl, rfl⟩
/-- Why a number can't be read, at the first place where it can't. -/
theorem pl_stop {f : Nat → Int} {n : Nat} {is sm : Int} {g : Int} {r : List Int} {v : Int} {p : Nat} (h : (plGo f n is sm (g :: r) v p).e ≠ 0) :
    (n < p + sw7 is sm g ∧ (plGo f n is sm (g :: r) v p).e = 3) ∨ (p + sw7 is sm g ≤ n ∧ ¬ Sh (v + sv7 f is sm g p) ∧ (plGo f n is sm (g :: r) v p).e = 6) ∨
    (p + sw7 is sm g ≤ n ∧ Sh (v + sv7 f is sm g p) ∧ (plGo f n is sm (g :: r) v p).e = (plGo f n is sm r (v + sv7 f is sm g p) (p + sw7 is sm g)).e) := by
  rw [pl_cons] at h ⊢
  by_cases h1 : n < p + sw7 is sm g
  · rw [if_pos h1]; exact .inl ⟨h1, rfl⟩
  · by_cases h2 : ¬ Sh (v + sv7 f is sm g p)
    · rw [if_neg h1, if_pos h2]; exact .inr (.inl ⟨by omega, h2, rfl⟩)
    · refine .inr (.inr ⟨by omega, Decidable.not_not.1 h2, ?_⟩)
      rw [if_neg h1, if_neg h2]
      by_cases h3 : (plGo f n is sm r (v + sv7 f is sm g p) (p + sw7 is sm g)).e ≠ 0
      · rw [if_pos h3]
      · rw [if_neg h3]; exact (Decidable.not_not.1 h3).symm
theorem pl_len (f : Nat → Int) (n : Nat) (is sm : Int) : ∀ (gs : List Int) (v : Int) (p : Nat), (plGo f n is sm gs v p).e = 0 → (plGo f n is sm gs v p).L.length = gs.length := by
  intro gs
  induction gs with
  | nil => intro v p _; rfl
  | cons g r ih =>
    intro v p h
    obtain ⟨_, _, h3, h4, _⟩ := pl_step h
    rw [h4, List.length_cons, List.length_cons, ih _ _ h3]
/-- Numbers that are read fit in two bytes. -/
theorem pl_sh (f : Nat → Int) (n : Nat) (is sm : Int) : ∀ (gs : List Int) (v : Int) (p : Nat), (plGo f n is sm gs v p).e = 0 → ∀ x ∈ (plGo f n is sm gs v p).L, Sh x := by
  intro gs
  induction gs with
  | nil => intro v p _ x hx; cases hx
  | cons g r ih =>
    intro v p h x hx
    obtain ⟨_, h2, h3, h4, _⟩ := pl_step h
    rw [h4] at hx
    rcases List.mem_cons.1 hx with rfl | hx
    · exact h2
    · exact ih _ _ h3 x hx
theorem fl_len (f : Nat → Int) (n : Nat) (hf : ∀ j, j < n → 0 ≤ f j) : ∀ (k m p : Nat), m ≤ k → (flGo f n k m p).e = 0 → (flGo f n k m p).L.length = m := by
  intro k
  induction k with
  | zero => intro m p hm _; obtain rfl : m = 0 := by omega
            rfl
  | succ k ih =>
    intro m p hm h
    cases m with
    | zero => rfl
    | succ m =>
      unfold flGo at h ⊢
      by_cases h1 : n < p + 1
      · rw [if_pos h1] at h; cases h
      · by_cases h8 : Has8 (f p) 8
        · rw [if_neg h1, if_pos h8] at h ⊢
          by_cases h2 : n < p + 2
          · rw [if_pos h2] at h; cases h
          · by_cases h3 : (m : Int) < f (p + 1)
            · rw [if_neg h2, if_pos h3] at h; cases h
            · rw [if_neg h2, if_neg h3] at h ⊢
              by_cases h4 : (flGo f n k (m - (f (p + 1)).toNat) (p + 2)).e ≠ 0
              · rw [if_pos h4] at h; exact absurd h h4
              · rw [if_neg h4]
                have := ih (m - (f (p + 1)).toNat) (p + 2) (by omega) (Decidable.not_not.1 h4)
                have := hf (p + 1) (by omega)
                simp only [List.length_append, List.length_replicate]
                omega
        · rw [if_neg h1, if_neg h8] at h ⊢
          by_cases h4 : (flGo f n k m (p + 1)).e ≠ 0
          · rw [if_pos h4] at h; exact absurd h h4
          · rw [if_neg h4]
            have := ih m (p + 1) (by omega) (Decidable.not_not.1 h4)
            simp only [List.length_cons]
            omega
theorem fl_cons (f : Nat → Int) (n k m p : Nat) : flGo f n (k + 1) (m + 1) p =
    if n < p + 1 then ⟨3, [], 0⟩
    else if Has8 (f p) 8 then
      if n < p + 2 then ⟨3, [], 0⟩
      else if (m : Int) < f (p + 1) then ⟨4, [], 0⟩
      else if (flGo f n k (m - (f (p + 1)).toNat) (p + 2)).e ≠ 0 then ⟨(flGo f n k (m - (f (p + 1)).toNat) (p + 2)).e, [], 0⟩
      else ⟨0, List.replicate ((f (p + 1)).toNat + 1) (f p) ++ (flGo f n k (m - (f (p + 1)).toNat) (p + 2)).L, (flGo f n k (m - (f (p + 1)).toNat) (p + 2)).p⟩
    else if (flGo f n k m (p + 1)).e ≠ 0 then ⟨(flGo f n k m (p + 1)).e, [], 0⟩
    else ⟨0, f p :: (flGo f n k m (p + 1)).L, (flGo f n k m (p + 1)).p⟩ := rfl
/-- More fuel than flags: the same answer. -/
theorem fl_fuel (f : Nat → Int) (n : Nat) (hf : ∀ j, j < n → 0 ≤ f j) : ∀ (k k2 m p : Nat), m ≤ k → m ≤ k2 → flGo f n k m p = flGo f n k2 m p := by
  intro k
  induction k with
  | zero =>
    intro k2 m p h1 h2
    obtain rfl : m = 0 := by omega
    cases k2 <;> rfl
  | succ k ih =>
    intro k2 m p h1 h2
    cases m with
    | zero => cases k2 <;> rfl
    | succ m =>
      obtain ⟨k3, rfl⟩ : ∃ q, k2 = q + 1 := ⟨k2 - 1, by omega⟩
      rw [fl_cons, fl_cons, ih k3 (m - (f (p + 1)).toNat) (p + 2) (by omega) (by omega), ih k3 m (p + 1) (by omega) (by omega)]
/-- One step of reading flags: one flag or a row of them, or why not. -/
theorem fl_step {f : Nat → Int} {n m p : Nat} (hf : ∀ j, j < n → 0 ≤ f j) :
    (n < p + 1 ∧ (flGo f n (m + 1) (m + 1) p).e = 3) ∨
    (p + 1 ≤ n ∧ ¬ Has8 (f p) 8 ∧ (flGo f n (m + 1) (m + 1) p).e = (flGo f n m m (p + 1)).e ∧ ((flGo f n m m (p + 1)).e = 0 → (flGo f n (m + 1) (m + 1) p).L = f p :: (flGo f n m m (p + 1)).L ∧ (flGo f n (m + 1) (m + 1) p).p = (flGo f n m m (p + 1)).p)) ∨
    (p + 1 ≤ n ∧ n < p + 2 ∧ Has8 (f p) 8 ∧ (flGo f n (m + 1) (m + 1) p).e = 3) ∨
    (p + 2 ≤ n ∧ Has8 (f p) 8 ∧ (m : Int) < f (p + 1) ∧ (flGo f n (m + 1) (m + 1) p).e = 4) ∨
    (∃ j : Nat, p + 2 ≤ n ∧ Has8 (f p) 8 ∧ f (p + 1) = (j : Int) ∧ j ≤ m ∧ (flGo f n (m + 1) (m + 1) p).e = (flGo f n (m - j) (m - j) (p + 2)).e ∧
      ((flGo f n (m - j) (m - j) (p + 2)).e = 0 → (flGo f n (m + 1) (m + 1) p).L = List.replicate (j + 1) (f p) ++ (flGo f n (m - j) (m - j) (p + 2)).L ∧ (flGo f n (m + 1) (m + 1) p).p = (flGo f n (m - j) (m - j) (p + 2)).p)) := by
  rw [fl_cons]
  by_cases h1 : n < p + 1
  · exact .inl ⟨h1, by rw [if_pos h1]⟩
  · by_cases h8 : Has8 (f p) 8
    · rw [if_neg h1, if_pos h8]
      by_cases h2 : n < p + 2
      · exact .inr (.inr (.inl ⟨by omega, h2, h8, by rw [if_pos h2]⟩))
      · rw [if_neg h2]
        by_cases h3 : (m : Int) < f (p + 1)
        · exact .inr (.inr (.inr (.inl ⟨by omega, h8, h3, by rw [if_pos h3]⟩)))
        · rw [if_neg h3]
          obtain ⟨j, hj⟩ := Int.eq_ofNat_of_zero_le (hf (p + 1) (by omega))
          refine .inr (.inr (.inr (.inr ⟨j, by omega, h8, hj, by omega, ?_⟩)))
          rw [hj, Int.toNat_natCast, fl_fuel f n hf m (m - j) (m - j) (p + 2) (by omega) (by omega)]
          by_cases h4 : (flGo f n (m - j) (m - j) (p + 2)).e ≠ 0
          · rw [if_pos h4]; exact ⟨rfl, fun h => absurd h h4⟩
          · rw [if_neg h4]; exact ⟨(Decidable.not_not.1 h4).symm, fun _ => ⟨rfl, rfl⟩⟩
    · rw [if_neg h1, if_neg h8]
      refine .inr (.inl ⟨by omega, h8, ?_⟩)
      by_cases h4 : (flGo f n m m (p + 1)).e ≠ 0
      · rw [if_pos h4]; exact ⟨rfl, fun h => absurd h h4⟩
      · rw [if_neg h4]; exact ⟨(Decidable.not_not.1 h4).symm, fun _ => ⟨rfl, rfl⟩⟩
end Go.Proofs.Ytpplnapfpoloiaa
