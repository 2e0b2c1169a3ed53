/-
  Texts of this seat, put together: each with its own head.
-/
import Derived.Test.YteckkcpnfeoehaaDoorMnAe

/-
  Layer 7: the packed bytes of flags and of steps as lists of numbers; that what is written is read, and that less of it is too short. No walk.
-/
namespace Go.Proofs.YteckkcpnfeoehaaDoor
set_option maxRecDepth 100000
open Go.RowKit
set_option linter.unusedVariables false
set_option linter.unusedSimpArgs false

/-- How many at the front are f, at most k. -/
def run7 (f : Int) : Nat → List Int → Nat
  | 0, _ => 0
  | _ + 1, [] => 0
  | k + 1, g :: r => if g = f then run7 f k r + 1 else 0
theorem run7_le (f : Int) : ∀ (k : Nat) (l : List Int), run7 f k l ≤ k ∧ run7 f k l ≤ l.length := by
  intro k
  induction k with
  | zero => intro l; simp [run7]
  | succ k ih =>
    intro l
    cases l with
    | nil => simp [run7]
    | cons g r =>
      have := ih r
      unfold run7
      split <;> simp <;> omega
theorem run7_take (f : Int) : ∀ (k : Nat) (l : List Int), l.take (run7 f k l) = List.replicate (run7 f k l) f := by
  intro k
  induction k with
  | zero => intro l; simp [run7]
  | succ k ih =>
    intro l
    cases l with
    | nil => simp [run7]
    | cons g r =>
      unfold run7
      by_cases h : g = f
      · subst h
        rw [if_pos rfl, List.take_succ_cons, ih r, List.replicate_succ]
      · rw [if_neg h]; simp
/-- Flags packed: each row of the same ones once. -/
def rle7 : List Int → List Int
  | [] => []
  | f :: r => if run7 f 255 r = 0 then f :: rle7 r else (f + 8) :: (run7 f 255 r : Int) :: rle7 (r.drop (run7 f 255 r))
termination_by l => l.length
decreasing_by all_goals simp [List.length_drop]; try omega
/-- What they are when they are read. -/
def got7 : List Int → List Int
  | [] => []
  | f :: r => if run7 f 255 r = 0 then f :: got7 r else List.replicate (run7 f 255 r + 1) (f + 8) ++ got7 (r.drop (run7 f 255 r))
termination_by l => l.length
decreasing_by all_goals simp [List.length_drop]; try omega
theorem rle7_nil : rle7 [] = [] := by rw [rle7]
theorem got7_nil : got7 [] = [] := by rw [got7]
theorem rle7_cons (f : Int) (r : List Int) : rle7 (f :: r) = if run7 f 255 r = 0 then f :: rle7 r else (f + 8) :: (run7 f 255 r : Int) :: rle7 (r.drop (run7 f 255 r)) := by rw [rle7]
theorem got7_cons (f : Int) (r : List Int) : got7 (f :: r) = if run7 f 255 r = 0 then f :: got7 r else List.replicate (run7 f 255 r + 1) (f + 8) ++ got7 (r.drop (run7 f 255 r)) := by rw [got7]
theorem len7_ind {P : List Int → Prop} (h0 : P []) (h : ∀ f r, (∀ q : List Int, q.length ≤ r.length → P q) → P (f :: r)) : ∀ l, P l := by
  have k : ∀ (n : Nat) (l : List Int), l.length ≤ n → P l := by
    intro n
    induction n with
    | zero => intro l hl; cases l with
      | nil => exact h0
      | cons f r => simp at hl
    | succ n ih => intro l hl; cases l with
      | nil => exact h0
      | cons f r => exact h f r (fun q hq => ih q (by simp at hl; omega))
  exact fun l => k l.length l (Nat.le_refl _)
theorem got7_len : ∀ l : List Int, (got7 l).length = l.length := by
  refine len7_ind (by rw [got7_nil]) (fun f r ih => ?_)
  rw [got7_cons]
  have := run7_le f 255 r
  split
  · simp [ih r (Nat.le_refl _)]
  · rw [List.length_append, List.length_replicate, ih _ (by simp [List.length_drop]), List.length_drop, List.length_cons]; omega
/-- Packed, flags need no more bytes than there are flags; and some. -/
theorem rle7_len : ∀ l : List Int, (rle7 l).length ≤ l.length ∧ (l ≠ [] → 0 < (rle7 l).length) := by
  refine len7_ind (by rw [rle7_nil]; simp) (fun f r ih => ?_)
  rw [rle7_cons]
  have hr := run7_le f 255 r
  split
  · have := (ih r (Nat.le_refl _)).1
    simp; omega
  · have := (ih (r.drop (run7 f 255 r)) (by simp [List.length_drop])).1
    rw [List.length_drop] at this
    simp; omega
/-- A flag that is read is the one that was written, but for the bit of the row. -/
def AsFl (g f : Int) : Prop := g = f ∨ g = f + 8
theorem got7_as : ∀ l : List Int, ∀ j, j < l.length → AsFl ((got7 l).getD j 0) (l.getD j 0) := by
  refine len7_ind (by intro j hj; simp at hj) (fun f r ih => ?_)
  intro j hj
  rw [got7_cons]
  have hr := run7_le f 255 r
  have ht := run7_take f 255 r
  split
  · rename_i h0
    cases j with
    | zero => exact .inl rfl
    | succ j => exact ih r (Nat.le_refl _) j (by simpa using hj)
  · rename_i h0
    generalize run7 f 255 r = k at *
    by_cases hjk : j < k + 1
    · rw [List.getD_eq_getElem?_getD, List.getElem?_append_left (by simpa using hjk), List.getElem?_replicate, if_pos hjk]
      cases j with
      | zero => exact .inr rfl
      | succ j =>
        have e : (f :: r).getD (j + 1) 0 = f := by
          rw [List.getD_cons_succ, List.getD_eq_getElem?_getD, ← List.getElem?_take_of_lt (by omega : j < k), ht, List.getElem?_replicate, if_pos (by omega)]; rfl
        rw [e]; exact .inr rfl
    · obtain ⟨i, rfl⟩ : ∃ i, j = k + 1 + i := ⟨j - (k + 1), by omega⟩
      have hi := ih (r.drop k) (by simp [List.length_drop]) i (by simp [List.length_drop] at hj ⊢; omega)
      rw [List.getD_eq_getElem?_getD, List.getElem?_append_right (by simp), List.length_replicate, Nat.add_sub_cancel_left, ← List.getD_eq_getElem?_getD]
      have e : (f :: r).getD (k + 1 + i) 0 = (r.drop k).getD i 0 := by
        rw [show k + 1 + i = (k + i) + 1 by omega, List.getD_cons_succ, List.getD_eq_getElem?_getD, List.getD_eq_getElem?_getD, List.getElem?_drop]
      rw [e]; exact hi

/-- Flags as they are read: m more of them from p on, of n bytes. -/
structure Fl7 where
  (e : Int) (L : List Int) (p : Nat)
def flGo (f : Nat → Int) (n : Nat) : Nat → Nat → Nat → Fl7
  | 0, _, p => ⟨0, [], p⟩
  | _ + 1, 0, p => ⟨0, [], p⟩
  | k + 1, m + 1, p =>
    if n < p + 1 then ⟨3, [], 0⟩
    else if Has8 (f p) 8 then
      if n < p + 2 then ⟨3, [], 0⟩
      else if (m : Int) < f (p + 1) then ⟨4, [], 0⟩
      else if (flGo f n k (m - (f (p + 1)).toNat) (p + 2)).e ≠ 0 then ⟨(flGo f n k (m - (f (p + 1)).toNat) (p + 2)).e, [], 0⟩
      else ⟨0, List.replicate ((f (p + 1)).toNat + 1) (f p) ++ (flGo f n k (m - (f (p + 1)).toNat) (p + 2)).L, (flGo f n k (m - (f (p + 1)).toNat) (p + 2)).p⟩
    else if (flGo f n k m (p + 1)).e ≠ 0 then ⟨(flGo f n k m (p + 1)).e, [], 0⟩
    else ⟨0, f p :: (flGo f n k m (p + 1)).L, (flGo f n k m (p + 1)).p⟩
/-- A flag that may be written: the bit of the row is not set. -/
def FlOk (f : Int) : Prop := 0 ≤ f ∧ f < 256 ∧ ¬ Has8 f 8
theorem has8_add {f : Int} (h : FlOk f) : Has8 (f + 8) 8 := by
  obtain ⟨h0, h1, h2⟩ := h
  unfold Has8 at h2 ⊢; omega
theorem fl_back (f : Nat → Int) (n : Nat) : ∀ l : List Int, (∀ g ∈ l, FlOk g) → ∀ (k p : Nat), l.length ≤ k → AtL f p (rle7 l) →
    (p + (rle7 l).length ≤ n → flGo f n k l.length p = ⟨0, got7 l, p + (rle7 l).length⟩) ∧ (p ≤ n → n < p + (rle7 l).length → (flGo f n k l.length p).e = 3) := by
  refine len7_ind ?_ (fun g r ih => ?_)
  · intro _ k p _ _
    rw [rle7_nil, got7_nil]
    exact ⟨fun _ => by cases k <;> rfl, fun h1 h2 => absurd h2 (by simpa using h1)⟩
  · intro hok k p hk hat
    have hg := hok g (by simp)
    obtain ⟨k, rfl⟩ : ∃ q, k = q + 1 := ⟨k - 1, by simp at hk; omega⟩
    have hr := run7_le g 255 r
    rw [rle7_cons] at hat ⊢
    rw [got7_cons]
    have hk' : r.length ≤ k := by simpa using hk
    by_cases h0 : run7 g 255 r = 0
    · rw [if_pos h0] at hat ⊢
      rw [if_pos h0]
      have e0 : f p = g := by have := hat 0 (by simp); simpa using this
      have hat' : AtL f (p + 1) (rle7 r) := (AtL.app (A := [g]) (by simpa using hat) rfl).2
      obtain ⟨i1, i2⟩ := ih r (Nat.le_refl _) (fun x hx => hok x (by simp [hx])) k (p + 1) hk' hat'
      have hn8 := hg.2.2
      rw [List.length_cons, List.length_cons]
      constructor
      · intro hn
        have := i1 (by omega)
        unfold flGo
        rw [if_neg (by omega), e0, if_neg hn8, this]
        simp; omega
      · intro hpn hn
        unfold flGo
        by_cases h1 : n < p + 1
        · rw [if_pos h1]
        · have := i2 (by omega) (by omega)
          rw [if_neg h1, e0, if_neg hn8, this]
          simp
    · rw [if_neg h0] at hat ⊢
      rw [if_neg h0]
      generalize run7 g 255 r = j at *
      have e0 : f p = g + 8 := by have := hat 0 (by simp); simpa using this
      have e1 : f (p + 1) = (j : Int) := by have := hat 1 (by simp); simpa using this
      have hat' : AtL f (p + 2) (rle7 (r.drop j)) := (AtL.app (A := [g + 8, (j : Int)]) (by simpa using hat) rfl).2
      have hl : (r.drop j).length = r.length - j := List.length_drop ..
      obtain ⟨i1, i2⟩ := ih (r.drop j) (by omega) (fun x hx => hok x (by simp [List.mem_of_mem_drop hx])) k (p + 2) (by omega) hat'
      rw [hl] at i1 i2
      have h8 := has8_add hg
      rw [List.length_cons, List.length_cons, List.length_cons]
      constructor
      · intro hn
        have := i1 (by omega)
        unfold flGo
        rw [if_neg (by omega), e0, if_pos h8, if_neg (by omega), e1, if_neg (by omega), Int.toNat_natCast, this]
        simp; omega
      · intro hpn hn
        unfold flGo
        by_cases h1 : n < p + 1
        · rw [if_pos h1]
        · by_cases h2 : n < p + 2
          · rw [if_neg h1, e0, if_pos h8, if_pos h2]
          · have := i2 (by omega) (by omega)
            rw [if_neg h1, e0, if_pos h8, if_neg h2, e1, if_neg (by omega), Int.toNat_natCast, this]
            simp

/-- A step: its bytes, and the bits that say so. -/
def stp7 (d : Int) : List Int := if d = 0 then [] else if 0 < d ∧ d < 256 then [d] else if -256 < d ∧ d < 0 then [-d] else putL d 2
def sfl7 (is sm d : Int) : Int := if d = 0 then sm else if 0 < d ∧ d < 256 then is + sm else if -256 < d ∧ d < 0 then is else 0
/-- Numbers as steps from the last one. -/
def stps7 (v : Int) : List Int → List Int
  | [] => []
  | x :: r => stp7 (x - v) ++ stps7 x r
theorem stp7_le (d : Int) : (stp7 d).length ≤ 2 := by
  unfold stp7
  split
  · simp
  · split
    · simp
    · split
      · simp
      · simp [putL_len]
theorem stps7_le : ∀ (l : List Int) (v : Int), (stps7 v l).length ≤ 2 * l.length := by
  intro l
  induction l with
  | nil => intro v; simp [stps7]
  | cons x r ih =>
    intro v
    have h1 := ih x
    have h2 := stp7_le (x - v)
    unfold stps7
    rw [List.length_append, List.length_cons]; omega
/-- The width of the step that a flag tells, and the step. -/
def sw7 (is sm g : Int) : Nat := if Has8 g is then 1 else if Has8 g sm then 0 else 2
def sv7 (f : Nat → Int) (is sm g : Int) (p : Nat) : Int := if Has8 g is then (if Has8 g sm then f p else - f p) else if Has8 g sm then 0 else sgn 2 (numAt f p 2)
/-- Numbers as they are read, a flag for each, from the last number and a place on. -/
def plGo (f : Nat → Int) (n : Nat) (is sm : Int) : List Int → Int → Nat → Fl7
  | [], _, p => ⟨0, [], p⟩
  | g :: r, v, p =>
    if n < p + sw7 is sm g then ⟨3, [], 0⟩
    else if ¬ Sh (v + sv7 f is sm g p) then ⟨6, [], 0⟩
    else if (plGo f n is sm r (v + sv7 f is sm g p) (p + sw7 is sm g)).e ≠ 0 then ⟨(plGo f n is sm r (v + sv7 f is sm g p) (p + sw7 is sm g)).e, [], 0⟩
    else ⟨0, (v + sv7 f is sm g p) :: (plGo f n is sm r (v + sv7 f is sm g p) (p + sw7 is sm g)).L, (plGo f n is sm r (v + sv7 f is sm g p) (p + sw7 is sm g)).p⟩
/-- A flag tells a step of d. -/
def Tells (is sm d g : Int) : Prop := (Has8 g is ↔ (d ≠ 0 ∧ -256 < d ∧ d < 256)) ∧ (Has8 g sm ↔ (0 ≤ d ∧ d < 256))
theorem tells_w {is sm d g : Int} (h : Tells is sm d g) : sw7 is sm g = (stp7 d).length := by
  obtain ⟨h1, h2⟩ := h
  unfold sw7 stp7
  by_cases e0 : d = 0
  · rw [if_neg (by rw [h1]; omega), if_pos (by rw [h2]; omega), if_pos e0]; rfl
  · by_cases e1 : 0 < d ∧ d < 256
    · rw [if_pos (by rw [h1]; omega), if_neg e0, if_pos e1]; rfl
    · by_cases e2 : -256 < d ∧ d < 0
      · rw [if_pos (by rw [h1]; omega), if_neg e0, if_neg e1, if_pos e2]; rfl
      · rw [if_neg (by rw [h1]; omega), if_neg (by rw [h2]; omega), if_neg e0, if_neg e1, if_neg e2, putL_len]
theorem tells_v {is sm d g : Int} {f : Nat → Int} {p : Nat} (h : Tells is sm d g) (hd : Sh d) (hat : AtL f p (stp7 d)) : sv7 f is sm g p = d := by
  obtain ⟨h1, h2⟩ := h
  unfold stp7 at hat
  unfold sv7
  by_cases e0 : d = 0
  · rw [if_neg (by rw [h1]; omega), if_pos (by rw [h2]; omega)]; exact e0.symm
  · by_cases e1 : 0 < d ∧ d < 256
    · rw [if_neg e0, if_pos e1] at hat
      rw [if_pos (by rw [h1]; omega), if_pos (by rw [h2]; omega)]
      have := hat 0 (by simp); simpa using this
    · by_cases e2 : -256 < d ∧ d < 0
      · rw [if_neg e0, if_neg e1, if_pos e2] at hat
        rw [if_pos (by rw [h1]; omega), if_neg (by rw [h2]; omega)]
        have := hat 0 (by simp)
        simp at this; omega
      · rw [if_neg e0, if_neg e1, if_neg e2] at hat
        rw [if_neg (by rw [h1]; omega), if_neg (by rw [h2]; omega)]
        exact atL_s2 hat hd
/-- Each flag tells the step to its number. -/
def TellsL (is sm : Int) : Int → List Int → List Int → Prop
  | _, [], [] => True
  | v, x :: r, g :: s => Tells is sm (x - v) g ∧ Sh (x - v) ∧ Sh x ∧ TellsL is sm x r s
  | _, _, _ => False
theorem pl_back (f : Nat → Int) (n : Nat) (is sm : Int) : ∀ (l gs : List Int) (v : Int) (p : Nat), TellsL is sm v l gs → AtL f p (stps7 v l) →
    (p + (stps7 v l).length ≤ n → plGo f n is sm gs v p = ⟨0, l, p + (stps7 v l).length⟩) ∧ (p ≤ n → n < p + (stps7 v l).length → (plGo f n is sm gs v p).e = 3) := by
  intro l
  induction l with
  | nil =>
    intro gs v p ht _
    cases gs with
    | nil => exact ⟨fun _ => rfl, fun h1 h2 => absurd h2 (by simpa [stps7] using h1)⟩
    | cons g s => exact ht.elim
  | cons x r ih =>
    intro gs v p ht hat
    cases gs with
    | nil => exact ht.elim
    | cons g s =>
      obtain ⟨t1, t2, t3, t4⟩ := ht
      unfold stps7 at hat
      obtain ⟨a1, a2⟩ := AtL.app hat rfl
      have hw := tells_w t1
      have hv := tells_v t1 t2 a1
      obtain ⟨i1, i2⟩ := ih s x (p + (stp7 (x - v)).length) t4 a2
      unfold stps7
      rw [List.length_append]
      unfold plGo
      rw [hw, hv, show v + (x - v) = x by omega]
      constructor
      · intro hn
        rw [if_neg (by omega), if_neg (by simpa using t3), i1 (by omega)]
        simp; omega
      · intro hpn hn
        by_cases h1 : n < p + (stp7 (x - v)).length
        · rw [if_pos h1]
        · rw [if_neg h1, if_neg (by simpa using t3), i2 (by omega) (by omega)]
          simp

/-- The flag of a point: on the curve or not, and its two steps. -/
def fl7 (on : Bool) (dx dy : Int) : Int := (if on then 1 else 0) + sfl7 2 16 dx + sfl7 4 32 dy
theorem sfl7_x (d : Int) : (d = 0 ∧ sfl7 2 16 d = 16) ∨ (0 < d ∧ d < 256 ∧ sfl7 2 16 d = 18) ∨ (-256 < d ∧ d < 0 ∧ sfl7 2 16 d = 2) ∨ ((256 ≤ d ∨ d ≤ -256) ∧ sfl7 2 16 d = 0) := by
  unfold sfl7
  repeat' split
  all_goals omega
theorem sfl7_y (d : Int) : (d = 0 ∧ sfl7 4 32 d = 32) ∨ (0 < d ∧ d < 256 ∧ sfl7 4 32 d = 36) ∨ (-256 < d ∧ d < 0 ∧ sfl7 4 32 d = 4) ∨ ((256 ≤ d ∨ d ≤ -256) ∧ sfl7 4 32 d = 0) := by
  unfold sfl7
  repeat' split
  all_goals omega
theorem fl7_ok (on : Bool) (dx dy : Int) : FlOk (fl7 on dx dy) ∧ fl7 on dx dy < 64 := by
  unfold fl7 FlOk Has8
  rcases sfl7_x dx with ⟨_, h⟩ | ⟨_, _, h⟩ | ⟨_, _, h⟩ | ⟨_, h⟩ <;> rcases sfl7_y dy with ⟨_, k⟩ | ⟨_, _, k⟩ | ⟨_, _, k⟩ | ⟨_, k⟩ <;> rw [h, k] <;> cases on <;> decide
theorem fl7_x {on : Bool} {dx dy g : Int} (hg : AsFl g (fl7 on dx dy)) : Tells 2 16 dx g := by
  unfold Tells Has8
  unfold AsFl fl7 at hg
  rcases sfl7_x dx with ⟨_, h⟩ | ⟨_, _, h⟩ | ⟨_, _, h⟩ | ⟨_, h⟩ <;> rcases sfl7_y dy with ⟨_, k⟩ | ⟨_, _, k⟩ | ⟨_, _, k⟩ | ⟨_, k⟩ <;> rw [h, k] at hg <;> cases on <;> simp at hg <;> rcases hg with rfl | rfl <;> omega
theorem fl7_y {on : Bool} {dx dy g : Int} (hg : AsFl g (fl7 on dx dy)) : Tells 4 32 dy g := by
  unfold Tells Has8
  unfold AsFl fl7 at hg
  rcases sfl7_x dx with ⟨_, h⟩ | ⟨_, _, h⟩ | ⟨_, _, h⟩ | ⟨_, h⟩ <;> rcases sfl7_y dy with ⟨_, k⟩ | ⟨_, _, k⟩ | ⟨_, _, k⟩ | ⟨_, k⟩ <;> rw [h, k] at hg <;> cases on <;> simp at hg <;> rcases hg with rfl | rfl <;> omega
theorem fl7_on {on : Bool} {dx dy g : Int} (hg : AsFl g (fl7 on dx dy)) : decide (Has8 g 1) = on := by
  unfold Has8
  unfold AsFl fl7 at hg
  rcases sfl7_x dx with ⟨_, h⟩ | ⟨_, _, h⟩ | ⟨_, _, h⟩ | ⟨_, h⟩ <;> rcases sfl7_y dy with ⟨_, k⟩ | ⟨_, _, k⟩ | ⟨_, _, k⟩ | ⟨_, k⟩ <;> rw [h, k] at hg <;> cases on <;> simp at hg <;> rcases hg with rfl | rfl <;> decide

/-- The flags of points: where they are, and whether they are on the curve. -/
def fls7 (vx vy : Int) : List Int → List Int → List Bool → List Int
  | x :: xs, y :: ys, o :: os => fl7 o (x - vx) (y - vy) :: fls7 x y xs ys os
  | _, _, _ => []
theorem fls7_len : ∀ (xs ys : List Int) (os : List Bool) (vx vy : Int), xs.length = ys.length → xs.length = os.length → (fls7 vx vy xs ys os).length = xs.length := by
  intro xs
  induction xs with
  | nil => intro ys os vx vy _ _; rfl
  | cons x xs ih =>
    intro ys os vx vy h1 h2
    cases ys with
    | nil => simp at h1
    | cons y ys =>
      cases os with
      | nil => simp at h2
      | cons o os =>
        unfold fls7
        rw [List.length_cons, List.length_cons, ih ys os x y (by simpa using h1) (by simpa using h2)]
theorem fls7_ok : ∀ (xs ys : List Int) (os : List Bool) (vx vy : Int), ∀ g ∈ fls7 vx vy xs ys os, FlOk g := by
  intro xs
  induction xs with
  | nil => intro ys os vx vy g hg; simp [fls7] at hg
  | cons x xs ih =>
    intro ys os vx vy g hg
    cases ys with
    | nil => simp [fls7] at hg
    | cons y ys =>
      cases os with
      | nil => simp [fls7] at hg
      | cons o os =>
        unfold fls7 at hg
        rcases List.mem_cons.1 hg with rfl | hg
        · exact (fl7_ok o _ _).1
        · exact ih ys os x y g hg
/-- Steps that fit in two bytes. -/
def StepsOk (v : Int) : List Int → Prop
  | [] => True
  | x :: r => Sh (x - v) ∧ Sh x ∧ StepsOk x r
/-- Lists of flags that are as written, one for one. -/
def AsL (gs fs : List Int) : Prop := gs.length = fs.length ∧ ∀ j, j < fs.length → AsFl (gs.getD j 0) (fs.getD j 0)
theorem AsL.cons {g f : Int} {gs fs : List Int} (h : AsL (g :: gs) (f :: fs)) : AsFl g f ∧ AsL gs fs := by
  refine ⟨h.2 0 (by simp), by simpa using h.1, fun j hj => ?_⟩
  have := h.2 (j + 1) (by simpa using hj)
  simpa using this
theorem got7_asL (l : List Int) : AsL (got7 l) l := ⟨got7_len l, got7_as l⟩
theorem fls7_tells : ∀ (xs ys : List Int) (os : List Bool) (vx vy : Int) (gs : List Int), xs.length = ys.length → xs.length = os.length → AsL gs (fls7 vx vy xs ys os) → StepsOk vx xs → StepsOk vy ys →
    TellsL 2 16 vx xs gs ∧ TellsL 4 32 vy ys gs ∧ gs.map (fun g => decide (Has8 g 1)) = os := by
  intro xs
  induction xs with
  | nil =>
    intro ys os vx vy gs h1 h2 hg _ _
    cases ys with
    | cons y ys => simp at h1
    | nil =>
      cases os with
      | cons o os => simp at h2
      | nil =>
        cases gs with
        | cons g gs => have := hg.1; simp [fls7] at this
        | nil => exact ⟨trivial, trivial, rfl⟩
  | cons x xs ih =>
    intro ys os vx vy gs h1 h2 hg k1 k2
    cases ys with
    | nil => simp at h1
    | cons y ys =>
      cases os with
      | nil => simp at h2
      | cons o os =>
        unfold fls7 at hg
        cases gs with
        | nil => have := hg.1; simp at this
        | cons g gs =>
          obtain ⟨g1, g2⟩ := hg.cons
          obtain ⟨a1, a2, a3⟩ := k1
          obtain ⟨b1, b2, b3⟩ := k2
          obtain ⟨r1, r2, r3⟩ := ih ys os x y gs (by simpa using h1) (by simpa using h2) g2 a3 b3
          refine ⟨⟨fl7_x g1, a1, a2, r1⟩, ⟨fl7_y g1, b1, b2, r2⟩, ?_⟩
          rw [List.map_cons, r3, fl7_on g1]

/-- All the points' bytes, and what they are read as. -/
def kn7 (xs ys : List Int) (os : List Bool) : List Int := rle7 (fls7 0 0 xs ys os) ++ (stps7 0 xs ++ stps7 0 ys)
structure Kn7 where
  (e : Int) (G X Y : List Int)
def knGo (f : Nat → Int) (n m p : Nat) : Kn7 :=
  if (flGo f n m m p).e ≠ 0 then ⟨(flGo f n m m p).e, [], [], []⟩
  else if (plGo f n 2 16 (flGo f n m m p).L 0 (flGo f n m m p).p).e ≠ 0 then ⟨(plGo f n 2 16 (flGo f n m m p).L 0 (flGo f n m m p).p).e, [], [], []⟩
  else if (plGo f n 4 32 (flGo f n m m p).L 0 (plGo f n 2 16 (flGo f n m m p).L 0 (flGo f n m m p).p).p).e ≠ 0 then ⟨(plGo f n 4 32 (flGo f n m m p).L 0 (plGo f n 2 16 (flGo f n m m p).L 0 (flGo f n m m p).p).p).e, [], [], []⟩
  else ⟨0, (flGo f n m m p).L, (plGo f n 2 16 (flGo f n m m p).L 0 (flGo f n m m p).p).L, (plGo f n 4 32 (flGo f n m m p).L 0 (plGo f n 2 16 (flGo f n m m p).L 0 (flGo f n m m p).p).p).L⟩
theorem kn_back (f : Nat → Int) (n p : Nat) (xs ys : List Int) (os : List Bool) (h1 : xs.length = ys.length) (h2 : xs.length = os.length) (k1 : StepsOk 0 xs) (k2 : StepsOk 0 ys) (hat : AtL f p (kn7 xs ys os)) :
    (p + (kn7 xs ys os).length ≤ n → ∃ gs, knGo f n xs.length p = ⟨0, gs, xs, ys⟩ ∧ gs.map (fun g => decide (Has8 g 1)) = os) ∧ (p ≤ n → n < p + (kn7 xs ys os).length → (knGo f n xs.length p).e = 3) := by
  unfold kn7 at hat ⊢
  have hl := fls7_len xs ys os 0 0 h1 h2
  obtain ⟨a1, a2⟩ := AtL.app hat rfl
  obtain ⟨a2, a3⟩ := AtL.app a2 rfl
  obtain ⟨f1, f2⟩ := fl_back f n (fls7 0 0 xs ys os) (fls7_ok xs ys os 0 0) xs.length p (by omega) a1
  rw [hl] at f1 f2
  obtain ⟨t1, t2, t3⟩ := fls7_tells xs ys os 0 0 _ h1 h2 (got7_asL _) k1 k2
  obtain ⟨x1, x2⟩ := pl_back f n 2 16 xs _ 0 _ t1 a2
  obtain ⟨y1, y2⟩ := pl_back f n 4 32 ys _ 0 _ t2 a3
  simp only [List.length_append] at *
  unfold knGo
  constructor
  · intro hn
    rw [f1 (by omega)]
    dsimp only
    rw [if_neg (by simp), x1 (by omega)]
    dsimp only
    rw [if_neg (by simp), y1 (by omega)]
    dsimp only
    rw [if_neg (by simp)]
    exact ⟨_, rfl, t3⟩
  · intro hp hn
    by_cases c1 : n < p + (rle7 (fls7 0 0 xs ys os)).length
    · rw [if_pos (by rw [f2 hp c1]; decide)]; exact f2 hp c1
    · rw [f1 (by omega)]
      dsimp only
      rw [if_neg (by simp)]
      by_cases c2 : n < p + (rle7 (fls7 0 0 xs ys os)).length + (stps7 0 xs).length
      · rw [if_pos (by rw [x2 (by omega) c2]; decide)]; exact x2 (by omega) c2
      · rw [x1 (by omega)]
        dsimp only
        rw [if_neg (by simp), if_pos (by rw [y2 (by omega) (by omega)]; decide)]; exact y2 (by omega) (by omega)
/-- The points' bytes are no more than five for each, and some. -/
theorem kn7_len (xs ys : List Int) (os : List Bool) (h1 : xs.length = ys.length) (h2 : xs.length = os.length) : (kn7 xs ys os).length ≤ 5 * xs.length ∧ (xs ≠ [] → 0 < (kn7 xs ys os).length) := by
  unfold kn7
  have hl := fls7_len xs ys os 0 0 h1 h2
  have r1 := rle7_len (fls7 0 0 xs ys os)
  have r2 := stps7_le xs 0
  have r3 := stps7_le ys 0
  simp only [List.length_append]
  refine ⟨by omega, fun h => ?_⟩
  have := r1.2 (by intro h0; rw [h0] at hl; exact h (List.length_eq_zero_iff.1 hl.symm))
  omega
end Go.Proofs.YteckkcpnfeoehaaDoor

/-
  Layer 7: a whole glyph's bytes as lists of numbers: how many points each contour has, the points' numbers, the code; what any bytes read as. No walk.
-/
namespace Go.Proofs.YteckkcpnfeoehaaDoor
set_option maxRecDepth 100000
open Go.RowKit
set_option linter.unusedVariables false
set_option linter.unusedSimpArgs false

/-- The last points of contours of so many points, from the last one on. -/
def ends7 (v : Int) : List Nat → List Int
  | [] => []
  | l :: r => (v + l) :: ends7 (v + l) r
theorem ends7_len : ∀ (ls : List Nat) (v : Int), (ends7 v ls).length = ls.length := by
  intro ls
  induction ls with
  | nil => intro v; rfl
  | cons l r ih => intro v; unfold ends7; rw [List.length_cons, List.length_cons, ih]
theorem ends7_get : ∀ (ls : List Nat) (v : Int) (j : Nat), j < ls.length → (ends7 v ls).getD j 0 = v + ((ls.take (j + 1)).sum : Nat) := by
  intro ls
  induction ls with
  | nil => intro v j hj; simp at hj
  | cons l r ih =>
    intro v j hj
    unfold ends7
    cases j with
    | zero => simp
    | succ j =>
      rw [List.getD_cons_succ, ih (v + l) j (by simpa using hj), List.take_succ_cons, List.sum_cons]
      omega
theorem sum_take_le (ls : List Nat) (j : Nat) : (ls.take j).sum ≤ ls.sum := by
  have h := List.take_append_drop j ls
  have : ls.sum = (ls.take j).sum + (ls.drop j).sum := by rw [← List.sum_append_nat, h]
  omega
theorem sum_take_lt (ls : List Nat) (h : ∀ l ∈ ls, 1 ≤ l) (j : Nat) (hj : j < ls.length) : (ls.take j).sum + 1 ≤ (ls.take (j + 1)).sum := by
  rw [List.take_succ_eq_append_getElem hj, List.sum_append_nat]
  have := h ls[j] (List.getElem_mem hj)
  simp; omega
theorem len_le_sum (ls : List Nat) (h : ∀ l ∈ ls, 1 ≤ l) : ls.length ≤ ls.sum := by
  induction ls with
  | nil => simp
  | cons l r ih =>
    have h1 := h l (by simp)
    have h2 := ih (fun x hx => h x (by simp [hx]))
    rw [List.sum_cons, List.length_cons]; omega
/-- Numbers of two bytes in a row. -/
theorem nums_at {f : Nat → Int} {p : Nat} : ∀ (l : List Int) (p : Nat), AtL f p (nums8 l) → ∀ j, j < l.length → numAt f (p + 2 * j) 2 = l.getD j 0 % 65536 := by
  intro l
  induction l with
  | nil => intro p _ j hj; simp at hj
  | cons x r ih =>
    intro p h j hj
    have h' : AtL f p (putL x 2 ++ nums8 r) := by simpa [nums8] using h
    obtain ⟨h1, h2⟩ := AtL.app h' rfl
    cases j with
    | zero => rw [Nat.mul_zero, Nat.add_zero, atL_put2 h1]; rfl
    | succ j =>
      rw [putL_len] at h2
      rw [show p + 2 * (j + 1) = p + 2 + 2 * j by omega, ih (p + 2) h2 j (by simpa using hj), List.getD_cons_succ]

structure An7 where
  (e : Int) (E : List Int) (s m : Nat) (G X Y : List Int)
def no7 (e : Int) : An7 := ⟨e, [], 0, 0, [], [], []⟩
def en7 (f : Nat → Int) (i : Nat) : Int := numAt f (10 + 2 * i) 2
/-- Behind the contours' last points. -/
def rdB7 (f : Nat → Int) (n k m : Nat) : An7 :=
  if n < 12 + 2 * k then no7 3
  else if (n : Int) < 12 + 2 * k + numAt f (10 + 2 * k) 2 then no7 3
  else if (knGo f n m (12 + 2 * k + (numAt f (10 + 2 * k) 2).toNat)).e ≠ 0 then no7 (knGo f n m (12 + 2 * k + (numAt f (10 + 2 * k) 2).toNat)).e
  else ⟨0, (List.range k).map (en7 f), 12 + 2 * k, (numAt f (10 + 2 * k) 2).toNat, (knGo f n m (12 + 2 * k + (numAt f (10 + 2 * k) 2).toNat)).G, (knGo f n m (12 + 2 * k + (numAt f (10 + 2 * k) 2).toNat)).X, (knGo f n m (12 + 2 * k + (numAt f (10 + 2 * k) 2).toNat)).Y⟩
def rdA7 (f : Nat → Int) (n k : Nat) : An7 :=
  if n < 10 + 2 * k then no7 3
  else if ∃ i, i < k ∧ 0 < i ∧ en7 f i ≤ en7 f (i - 1) then no7 12
  else if 4096 ≤ en7 f (k - 1) then no7 7
  else rdB7 f n k (en7 f (k - 1) + 1).toNat
def rdAns7 (f : Nat → Int) (n : Nat) : An7 :=
  if n = 0 then no7 0
  else if n < 10 then no7 3
  else if s2 f 0 < 0 then no7 11
  else if s2 f 0 = 0 then no7 0
  else rdA7 f n (s2 f 0).toNat
/-- A glyph's bytes: so many points a contour, a box, a code, the points' numbers. -/
def wrB7 (ls : List Nat) (box c xs ys : List Int) (os : List Bool) : List Int :=
  putL ls.length 2 ++ (nums8 box ++ (nums8 (ends7 (-1) ls) ++ (putL c.length 2 ++ (c ++ kn7 xs ys os))))
theorem wrB7_len (ls : List Nat) (box c xs ys : List Int) (os : List Bool) (hb : box.length = 4) : (wrB7 ls box c xs ys os).length = 12 + 2 * ls.length + c.length + (kn7 xs ys os).length := by
  unfold wrB7
  simp only [List.length_append, putL_len, nums8_len, ends7_len, hb]; omega
theorem back7 (f : Nat → Int) (n : Nat) (ls : List Nat) (box c xs ys : List Int) (os : List Bool) (hb : box.length = 4) (hl0 : ls ≠ []) (hl : ∀ l ∈ ls, 1 ≤ l) (hs : ls.sum = xs.length) (hm : xs.length ≤ 4096) (hc : c.length ≤ 65535)
    (h1 : xs.length = ys.length) (h2 : xs.length = os.length) (k1 : StepsOk 0 xs) (k2 : StepsOk 0 ys) (hat : AtL f 0 (wrB7 ls box c xs ys os)) :
    ((wrB7 ls box c xs ys os).length ≤ n → ∃ gs, rdAns7 f n = ⟨0, ends7 (-1) ls, 12 + 2 * ls.length, c.length, gs, xs, ys⟩ ∧ gs.map (fun g => decide (Has8 g 1)) = os ∧ ∀ j, j < c.length → f (12 + 2 * ls.length + j) = c.getD j 0) ∧
    (0 < n → n < (wrB7 ls box c xs ys os).length → rdAns7 f n = no7 3) := by
  rw [wrB7_len _ _ _ _ _ _ hb]
  unfold wrB7 at hat
  obtain ⟨a0, a1⟩ := AtL.app hat rfl
  obtain ⟨_, a1⟩ := AtL.app a1 rfl
  obtain ⟨a2, a3⟩ := AtL.app a1 rfl
  obtain ⟨a3, a4⟩ := AtL.app a3 rfl
  obtain ⟨a4, a5⟩ := AtL.app a4 rfl
  simp only [putL_len, nums8_len, ends7_len, hb] at a2 a3 a4 a5
  have hll := len_le_sum ls hl
  have hlp : 0 < ls.length := List.length_pos_iff.2 hl0
  have es : s2 f 0 = (ls.length : Int) := by
    unfold s2
    exact atL_s2 a0 ⟨by omega, by omega⟩
  have een : ∀ i, i < ls.length → en7 f i = (ends7 (-1) ls).getD i 0 := by
    intro i hi
    unfold en7
    have := nums_at (p := 0) (ends7 (-1) ls) _ a2 i (by rw [ends7_len]; exact hi)
    rw [show 0 + 2 + 2 * 4 + 2 * i = 10 + 2 * i by omega] at this
    rw [this, ends7_get ls (-1) i hi]
    have s1 := sum_take_le ls (i + 1)
    have s2 := sum_take_lt ls hl i hi
    omega
  have ec : numAt f (10 + 2 * ls.length) 2 = (c.length : Int) := by
    have := atL_put2 a3
    rw [show 0 + 2 + 2 * 4 + 2 * ls.length = 10 + 2 * ls.length by omega] at this
    rw [this]; omega
  have eE : (List.range ls.length).map (en7 f) = ends7 (-1) ls := by
    apply List.ext_getElem
    · simp [ends7_len]
    · intro i hi _
      have := een i (by simpa using hi)
      simp only [List.getElem_map, List.getElem_range]
      rw [this, List.getD_eq_getElem?_getD, List.getElem?_eq_getElem (by rw [ends7_len]; simpa using hi)]
      rfl
  have elast : en7 f (ls.length - 1) = (xs.length : Int) - 1 := by
    rw [een _ (by omega), ends7_get ls (-1) _ (by omega), show ls.length - 1 + 1 = ls.length by omega, List.take_length, hs]; omega
  have eord : ¬ ∃ i, i < ls.length ∧ 0 < i ∧ en7 f i ≤ en7 f (i - 1) := by
    rintro ⟨i, i1, i2, i3⟩
    rw [een i i1, een (i - 1) (by omega), ends7_get _ _ _ i1, ends7_get _ _ _ (by omega : i - 1 < ls.length), show i - 1 + 1 = i by omega] at i3
    have := sum_take_lt ls hl i i1
    omega
  have e12 : 0 + 2 + 2 * 4 + 2 * ls.length + 2 = 12 + 2 * ls.length := by omega
  rw [e12] at a4 a5
  obtain ⟨b1, b2⟩ := kn_back f n (12 + 2 * ls.length + c.length) xs ys os h1 h2 k1 k2 a5
  have hxs : (en7 f (ls.length - 1) + 1).toNat = xs.length := by rw [elast]; omega
  unfold rdAns7
  constructor
  · intro hn
    obtain ⟨gs, g1, g2⟩ := b1 hn
    refine ⟨gs, ?_, g2, fun j hj => a4 j hj⟩
    rw [if_neg (by omega), if_neg (by omega), es, if_neg (by omega), if_neg (by omega), Int.toNat_natCast]
    unfold rdA7
    rw [if_neg (by omega), if_neg eord, if_neg (by omega), hxs]
    unfold rdB7
    rw [if_neg (by omega), ec, if_neg (by omega), Int.toNat_natCast, g1, eE]
    simp
  · intro h0 hn

    rw [if_neg (by omega)]
    by_cases c1 : n < 10
    · rw [if_pos c1]
    · rw [if_neg c1, es, if_neg (by omega), if_neg (by omega), Int.toNat_natCast]
      unfold rdA7
      by_cases c2 : n < 10 + 2 * ls.length
      · rw [if_pos c2]
      · rw [if_neg c2, if_neg eord, if_neg (by omega), hxs]
        unfold rdB7
        by_cases c3 : n < 12 + 2 * ls.length
        · rw [if_pos c3]
        · rw [if_neg c3, ec]
          by_cases c4 : (n : Int) < 12 + 2 * ls.length + c.length
          · rw [if_pos c4]
          · rw [if_neg c4, Int.toNat_natCast, b2 (by omega) hn]
            simp

/-- Points cut into contours by the contours' last points. -/
def cutE7 {α : Type} : Nat → List Int → List α → List (List α)
  | _, [], _ => []
  | a, e :: r, K => ((K.take (e + 1).toNat).drop a) :: cutE7 (e + 1).toNat r K
theorem cutE7_ends {α : Type} : ∀ (Z : List (List α)) (A : List α), cutE7 A.length (ends7 ((A.length : Int) - 1) (Z.map List.length)) (A ++ Z.flatten) = Z := by
  intro Z
  induction Z with
  | nil => intro A; rfl
  | cons c Z ih =>
    intro A
    rw [List.map_cons]
    unfold ends7 cutE7
    have e1 : ((A.length : Int) - 1 + (c.length : Int) + 1).toNat = (A ++ c).length := by rw [List.length_append]; omega
    have e2 : (A.length : Int) - 1 + (c.length : Int) = ((A ++ c).length : Int) - 1 := by rw [List.length_append]; omega
    have e3 : A ++ (c :: Z).flatten = (A ++ c) ++ Z.flatten := by rw [List.flatten_cons, List.append_assoc]
    rw [e1, e2, e3, ih (A ++ c), List.take_left', List.drop_left]
    rfl
theorem cutE7_all {α : Type} (Z : List (List α)) : cutE7 0 (ends7 (-1) (Z.map List.length)) Z.flatten = Z := by
  have := cutE7_ends Z []
  simpa using this
/-- Points out of three lists. -/
def zip7 {α : Type} (mk : Int → Int → Bool → α) : List Int → List Int → List Bool → List α
  | x :: xs, y :: ys, o :: os => mk x y o :: zip7 mk xs ys os
  | _, _, _ => []
theorem zip7_map {α : Type} {mk : Int → Int → Bool → α} {fx fy : α → Int} {fo : α → Bool} (h : ∀ k, mk (fx k) (fy k) (fo k) = k) : ∀ K : List α, zip7 mk (K.map fx) (K.map fy) (K.map fo) = K := by
  intro K
  induction K with
  | nil => rfl
  | cons k K ih => simp only [List.map_cons, zip7, h k, ih]
def StepsOkB (v : Int) : List Int → Bool
  | [] => true
  | x :: r => decide (Sh (x - v)) && (decide (Sh x) && StepsOkB x r)
theorem stepsOkB_iff : ∀ (l : List Int) (v : Int), StepsOkB v l = true ↔ StepsOk v l := by
  intro l
  induction l with
  | nil => intro v; simp [StepsOkB, StepsOk]
  | cons x r ih => intro v; simp [StepsOkB, StepsOk, ih x]
instance (v : Int) (l : List Int) : Decidable (StepsOk v l) := decidable_of_iff _ (stepsOkB_iff l v)
/-- Why a glyph can't be written; 0: it can. -/
def wrE7 (ls : List Nat) (c xs ys : List Int) : Int :=
  if ls = [] then (if c = [] then 0 else 4)
  else if 0 ∈ ls then 4
  else if 4096 < ls.sum ∨ 65535 < c.length then 7
  else if StepsOk 0 xs ∧ StepsOk 0 ys then 0 else 6
theorem wrE7_ok {ls : List Nat} {c xs ys : List Int} (h0 : ls ≠ []) (h : wrE7 ls c xs ys = 0) : (∀ l ∈ ls, 1 ≤ l) ∧ ls.sum ≤ 4096 ∧ c.length ≤ 65535 ∧ StepsOk 0 xs ∧ StepsOk 0 ys := by
  unfold wrE7 at h
  rw [if_neg h0] at h
  by_cases h1 : 0 ∈ ls
  · rw [if_pos h1] at h; cases h
  · rw [if_neg h1] at h
    by_cases h2 : 4096 < ls.sum ∨ 65535 < c.length
    · rw [if_pos h2] at h; cases h
    · rw [if_neg h2] at h
      by_cases h3 : StepsOk 0 xs ∧ StepsOk 0 ys
      · refine ⟨fun l hl => ?_, by omega, by omega, h3.1, h3.2⟩
        rcases Nat.eq_zero_or_pos l with rfl | hp
        · exact absurd hl h1
        · exact hp
      · rw [if_neg h3] at h; cases h
/-- The bytes of a glyph that can be written. -/
def wr7 (ls : List Nat) (box c xs ys : List Int) (os : List Bool) : List Int := if ls = [] then [] else wrB7 ls box c xs ys os

/-- The least and the greatest of numbers; 0 of none. -/
def mn7 (l : List Int) : Int := l.foldl min (l.headD 0)
def mx7 (l : List Int) : Int := l.foldl max (l.headD 0)
theorem foldl_min_add (d : Int) : ∀ (l : List Int) (a : Int), (l.map (· + d)).foldl min (a + d) = l.foldl min a + d := by
  intro l
  induction l with
  | nil => intro a; rfl
  | cons x r ih =>
    intro a
    rw [List.map_cons, List.foldl_cons, List.foldl_cons, show min (a + d) (x + d) = min a x + d by omega, ih]
theorem foldl_max_add (d : Int) : ∀ (l : List Int) (a : Int), (l.map (· + d)).foldl max (a + d) = l.foldl max a + d := by
  intro l
  induction l with
  | nil => intro a; rfl
  | cons x r ih =>
    intro a
    rw [List.map_cons, List.foldl_cons, List.foldl_cons, show max (a + d) (x + d) = max a x + d by omega, ih]
theorem mn7_add {l : List Int} (h : l ≠ []) (d : Int) : mn7 (l.map (· + d)) = mn7 l + d := by
  cases l with
  | nil => exact absurd rfl h
  | cons x r => exact foldl_min_add d (x :: r) x
theorem mx7_add {l : List Int} (h : l ≠ []) (d : Int) : mx7 (l.map (· + d)) = mx7 l + d := by
  cases l with
  | nil => exact absurd rfl h
  | cons x r => exact foldl_max_add d (x :: r) x
theorem mn7_snoc (l : List Int) (x : Int) : mn7 (l ++ [x]) = if l = [] then x else min (mn7 l) x := by
  cases l with
  | nil => simp [mn7]
  | cons a r => rw [if_neg (by simp)]; unfold mn7; rw [List.foldl_append]; rfl
theorem mx7_snoc (l : List Int) (x : Int) : mx7 (l ++ [x]) = if l = [] then x else max (mx7 l) x := by
  cases l with
  | nil => simp [mx7]
  | cons a r => rw [if_neg (by simp)]; unfold mx7; rw [List.foldl_append]; rfl
theorem foldl_min_sh : ∀ (l : List Int) (a : Int), Sh a → (∀ x ∈ l, Sh x) → Sh (l.foldl min a) := by
  intro l
  induction l with
  | nil => intro a h _; exact h
  | cons x r ih =>
    intro a h k
    refine ih _ ?_ (fun y hy => k y (by simp [hy]))
    have := k x (by simp)
    unfold Sh at *
    omega
theorem foldl_max_sh : ∀ (l : List Int) (a : Int), Sh a → (∀ x ∈ l, Sh x) → Sh (l.foldl max a) := by
  intro l
  induction l with
  | nil => intro a h _; exact h
  | cons x r ih =>
    intro a h k
    refine ih _ ?_ (fun y hy => k y (by simp [hy]))
    have := k x (by simp)
    unfold Sh at *
    omega
theorem stepsOk_sh : ∀ (l : List Int) (v : Int), StepsOk v l → ∀ x ∈ l, Sh x := by
  intro l
  induction l with
  | nil => intro v _ x hx; cases hx
  | cons y r ih =>
    intro v h x hx
    obtain ⟨_, h2, h3⟩ := h
    rcases List.mem_cons.1 hx with rfl | hx
    · exact h2
    · exact ih y h3 x hx
/-- A glyph's box. -/
def box7 (xs ys : List Int) : List Int := [mn7 xs, mn7 ys, mx7 xs, mx7 ys]
theorem box7_len (xs ys : List Int) : (box7 xs ys).length = 4 := rfl
/-- How long a glyph's bytes are. -/
theorem short7 (ls : List Nat) (c xs ys : List Int) (os : List Bool) (h0 : ls ≠ []) (hl : ∀ l ∈ ls, 1 ≤ l) (hs : ls.sum = xs.length) (h1 : xs.length = ys.length) (h2 : xs.length = os.length) :
    (wr7 ls (box7 xs ys) c xs ys os).length ≤ 12 + 2 * ls.length + c.length + 5 * xs.length ∧ 12 + 2 * ls.length + c.length < (wr7 ls (box7 xs ys) c xs ys os).length := by
  unfold wr7
  rw [if_neg h0, wrB7_len _ _ _ _ _ _ (box7_len xs ys)]
  obtain ⟨a, b⟩ := kn7_len xs ys os h1 h2
  have hp := len_le_sum ls hl
  have hq : 0 < ls.length := List.length_pos_iff.2 h0
  have := b (by intro e; rw [e] at hs; simp at hs; rw [hs] at hp; omega)
  omega
/-- Flags and numbers as a loop comes to them: one more behind those that are there. -/
theorem fls7_snoc : ∀ (xs ys : List Int) (os : List Bool) (vx vy x y : Int) (o : Bool), xs.length = ys.length → xs.length = os.length →
    fls7 vx vy (xs ++ [x]) (ys ++ [y]) (os ++ [o]) = fls7 vx vy xs ys os ++ [fl7 o (x - xs.getLastD vx) (y - ys.getLastD vy)] := by
  intro xs
  induction xs with
  | nil =>
    intro ys os vx vy x y o h1 h2
    cases ys with
    | cons b ys => simp at h1
    | nil =>
      cases os with
      | cons b os => simp at h2
      | nil => rfl
  | cons a xs ih =>
    intro ys os vx vy x y o h1 h2
    cases ys with
    | nil => simp at h1
    | cons b ys =>
      cases os with
      | nil => simp at h2
      | cons q os =>
        rw [List.cons_append, List.cons_append, List.cons_append]
        unfold fls7
        rw [ih ys os a b x y o (by simpa using h1) (by simpa using h2), List.cons_append, List.getLastD_cons, List.getLastD_cons]
theorem stps7_snoc : ∀ (xs : List Int) (v x : Int), stps7 v (xs ++ [x]) = stps7 v xs ++ stp7 (x - xs.getLastD v) := by
  intro xs
  induction xs with
  | nil => intro v x; simp [stps7]
  | cons a xs ih => intro v x; rw [List.cons_append]; unfold stps7; rw [ih, List.append_assoc, List.getLastD_cons]
theorem stepsOk_snoc : ∀ (xs : List Int) (v x : Int), StepsOk v (xs ++ [x]) ↔ StepsOk v xs ∧ Sh (x - xs.getLastD v) ∧ Sh x := by
  intro xs
  induction xs with
  | nil => intro v x; simp [StepsOk]
  | cons a xs ih => intro v x; rw [List.cons_append]; unfold StepsOk; rw [ih, List.getLastD_cons]; constructor <;> (intro h; obtain ⟨h1, h2⟩ := h; simp_all)
end Go.Proofs.YteckkcpnfeoehaaDoor

/-
  Layer 7: the lists' steps as loops take them. No walk.
-/
namespace Go.Proofs.YteckkcpnfeoehaaDoor
set_option maxRecDepth 100000
open Go.RowKit
set_option linter.unusedVariables false
set_option linter.unusedSimpArgs false

/-- A row of the same flags, found by looking ahead. -/
theorem run7_is (f : Int) : ∀ (k : Nat) (l : List Int) (j : Nat), j ≤ k → j ≤ l.length → (∀ i, i < j → l.getD i 0 = f) → (j = k ∨ j = l.length ∨ l.getD j 0 ≠ f) → run7 f k l = j := by
  intro k
  induction k with
  | zero => intro l j h1 _ _ _; obtain rfl : j = 0 := by omega
            simp [run7]
  | succ k ih =>
    intro l j h1 h2 h3 h4
    cases l with
    | nil => simp at h2; subst h2; simp [run7]
    | cons g r =>
      unfold run7
      cases j with
      | zero =>
        rcases h4 with h | h | h
        · cases h
        · simp at h
        · rw [if_neg (by simpa using h)]
      | succ j =>
        have hg : g = f := by simpa using h3 0 (by omega)
        rw [if_pos hg, ih r j (by omega) (by simpa using h2) (fun i hi => by simpa using h3 (i + 1) (by omega)) (by
          rcases h4 with h | h | h
          · exact .inl (by omega)
          · exact .inr (.inl (by simpa using h))
          · exact .inr (.inr (by simpa using h)))]
theorem pl_cons (f : Nat → Int) (n : Nat) (is sm g : Int) (r : List Int) (v : Int) (p : Nat) : plGo f n is sm (g :: r) v p =
    if n < p + sw7 is sm g then ⟨3, [], 0⟩
    else if ¬ Sh (v + sv7 f is sm g p) then ⟨6, [], 0⟩
    else if (plGo f n is sm r (v + sv7 f is sm g p) (p + sw7 is sm g)).e ≠ 0 then ⟨(plGo f n is sm r (v + sv7 f is sm g p) (p + sw7 is sm g)).e, [], 0⟩
    else ⟨0, (v + sv7 f is sm g p) :: (plGo f n is sm r (v + sv7 f is sm g p) (p + sw7 is sm g)).L, (plGo f n is sm r (v + sv7 f is sm g p) (p + sw7 is sm g)).p⟩ := rfl
/-- One number more is read. -/
theorem pl_step {f : Nat → Int} {n : Nat} {is sm : Int} {g : Int} {r : List Int} {v : Int} {p : Nat} (h : (plGo f n is sm (g :: r) v p).e = 0) :
    p + sw7 is sm g ≤ n ∧ Sh (v + sv7 f is sm g p) ∧ (plGo f n is sm r (v + sv7 f is sm g p) (p + sw7 is sm g)).e = 0 ∧
    (plGo f n is sm (g :: r) v p).L = (v + sv7 f is sm g p) :: (plGo f n is sm r (v + sv7 f is sm g p) (p + sw7 is sm g)).L ∧ (plGo f n is sm (g :: r) v p).p = (plGo f n is sm r (v + sv7 f is sm g p) (p + sw7 is sm g)).p := by
  rw [pl_cons] at h ⊢
  by_cases h1 : n < p + sw7 is sm g
  · rw [if_pos h1] at h; cases h
  · by_cases h2 : ¬ Sh (v + sv7 f is sm g p)
    · rw [if_neg h1, if_pos h2] at h; cases h
    · by_cases h3 : (plGo f n is sm r (v + sv7 f is sm g p) (p + sw7 is sm g)).e ≠ 0
      · rw [if_neg h1, if_neg h2, if_pos h3] at h; exact absurd h h3
      · rw [if_neg h1, if_neg h2, if_neg h3]
        exact ⟨by omega, Decidable.not_not.1 h2, Decidable.not_not.1 h3, rfl, rfl⟩
/-- Why a number can't be read, at the first place where it can't. -/
theorem pl_stop {f : Nat → Int} {n : Nat} {is sm : Int} {g : Int} {r : List Int} {v : Int} {p : Nat} (h : (plGo f n is sm (g :: r) v p).e ≠ 0) :
    (n < p + sw7 is sm g ∧ (plGo f n is sm (g :: r) v p).e = 3) ∨ (p + sw7 is sm g ≤ n ∧ ¬ Sh (v + sv7 f is sm g p) ∧ (plGo f n is sm (g :: r) v p).e = 6) ∨
    (p + sw7 is sm g ≤ n ∧ Sh (v + sv7 f is sm g p) ∧ (plGo f n is sm (g :: r) v p).e = (plGo f n is sm r (v + sv7 f is sm g p) (p + sw7 is sm g)).e) := by
  rw [pl_cons] at h ⊢
  by_cases h1 : n < p + sw7 is sm g
  · rw [if_pos h1]; exact .inl ⟨h1, rfl⟩
  · by_cases h2 : ¬ Sh (v + sv7 f is sm g p)
    · rw [if_neg h1, if_pos h2]; exact .inr (.inl ⟨by omega, h2, rfl⟩)
    · refine .inr (.inr ⟨by omega, Decidable.not_not.1 h2, ?_⟩)
      rw [if_neg h1, if_neg h2]
      by_cases h3 : (plGo f n is sm r (v + sv7 f is sm g p) (p + sw7 is sm g)).e ≠ 0
      · rw [if_pos h3]
      · rw [if_neg h3]; exact (Decidable.not_not.1 h3).symm
theorem pl_len (f : Nat → Int) (n : Nat) (is sm : Int) : ∀ (gs : List Int) (v : Int) (p : Nat), (plGo f n is sm gs v p).e = 0 → (plGo f n is sm gs v p).L.length = gs.length := by
  intro gs
  induction gs with
  | nil => intro v p _; rfl
  | cons g r ih =>
    intro v p h
    obtain ⟨_, _, h3, h4, _⟩ := pl_step h
    rw [h4, List.length_cons, List.length_cons, ih _ _ h3]
/-- Numbers that are read fit in two bytes. -/
theorem pl_sh (f : Nat → Int) (n : Nat) (is sm : Int) : ∀ (gs : List Int) (v : Int) (p : Nat), (plGo f n is sm gs v p).e = 0 → ∀ x ∈ (plGo f n is sm gs v p).L, Sh x := by
  intro gs
  induction gs with
  | nil => intro v p _ x hx; cases hx
  | cons g r ih =>
    intro v p h x hx
    obtain ⟨_, h2, h3, h4, _⟩ := pl_step h
    rw [h4] at hx
    rcases List.mem_cons.1 hx with rfl | hx
    · exact h2
    · exact ih _ _ h3 x hx
theorem fl_len (f : Nat → Int) (n : Nat) (hf : ∀ j, j < n → 0 ≤ f j) : ∀ (k m p : Nat), m ≤ k → (flGo f n k m p).e = 0 → (flGo f n k m p).L.length = m := by
  intro k
  induction k with
  | zero => intro m p hm _; obtain rfl : m = 0 := by omega
            rfl
  | succ k ih =>
    intro m p hm h
    cases m with
    | zero => rfl
    | succ m =>
      unfold flGo at h ⊢
      by_cases h1 : n < p + 1
      · rw [if_pos h1] at h; cases h
      · by_cases h8 : Has8 (f p) 8
        · rw [if_neg h1, if_pos h8] at h ⊢
          by_cases h2 : n < p + 2
          · rw [if_pos h2] at h; cases h
          · by_cases h3 : (m : Int) < f (p + 1)
            · rw [if_neg h2, if_pos h3] at h; cases h
            · rw [if_neg h2, if_neg h3] at h ⊢
              by_cases h4 : (flGo f n k (m - (f (p + 1)).toNat) (p + 2)).e ≠ 0
              · rw [if_pos h4] at h; exact absurd h h4
              · rw [if_neg h4]
                have := ih (m - (f (p + 1)).toNat) (p + 2) (by omega) (Decidable.not_not.1 h4)
                have := hf (p + 1) (by omega)
                simp only [List.length_append, List.length_replicate]
                omega
        · rw [if_neg h1, if_neg h8] at h ⊢
          by_cases h4 : (flGo f n k m (p + 1)).e ≠ 0
          · rw [if_pos h4] at h; exact absurd h h4
          · rw [if_neg h4]
            have := ih m (p + 1) (by omega) (Decidable.not_not.1 h4)
            simp only [List.length_cons]
            omega
theorem fl_cons (f : Nat → Int) (n k m p : Nat) : flGo f n (k + 1) (m + 1) p =
    if n < p + 1 then ⟨3, [], 0⟩
    else if Has8 (f p) 8 then
      if n < p + 2 then ⟨3, [], 0⟩
      else if (m : Int) < f (p + 1) then ⟨4, [], 0⟩
      else if (flGo f n k (m - (f (p + 1)).toNat) (p + 2)).e ≠ 0 then ⟨(flGo f n k (m - (f (p + 1)).toNat) (p + 2)).e, [], 0⟩
      else ⟨0, List.replicate ((f (p + 1)).toNat + 1) (f p) ++ (flGo f n k (m - (f (p + 1)).toNat) (p + 2)).L, (flGo f n k (m - (f (p + 1)).toNat) (p + 2)).p⟩
    else if (flGo f n k m (p + 1)).e ≠ 0 then ⟨(flGo f n k m (p + 1)).e, [], 0⟩
    else ⟨0, f p :: (flGo f n k m (p + 1)).L, (flGo f n k m (p + 1)).p⟩ := rfl
/-- More fuel than flags: the same answer. -/
theorem fl_fuel (f : Nat → Int) (n : Nat) (hf : ∀ j, j < n → 0 ≤ f j) : ∀ (k k2 m p : Nat), m ≤ k → m ≤ k2 → flGo f n k m p = flGo f n k2 m p := by
  intro k
  induction k with
  | zero =>
    intro k2 m p h1 h2
    obtain rfl : m = 0 := by omega
    cases k2 <;> rfl
  | succ k ih =>
    intro k2 m p h1 h2
    cases m with
    | zero => cases k2 <;> rfl
    | succ m =>
      obtain ⟨k3, rfl⟩ : ∃ q, k2 = q + 1 := ⟨k2 - 1, by omega⟩
      rw [fl_cons, fl_cons, ih k3 (m - (f (p + 1)).toNat) (p + 2) (by omega) (by omega), ih k3 m (p + 1) (by omega) (by omega)]
/-- One step of reading flags: one flag or a row of them, or why not. -/
theorem fl_step {f : Nat → Int} {n m p : Nat} (hf : ∀ j, j < n → 0 ≤ f j) :
    (n < p + 1 ∧ (flGo f n (m + 1) (m + 1) p).e = 3) ∨
    (p + 1 ≤ n ∧ ¬ Has8 (f p) 8 ∧ (flGo f n (m + 1) (m + 1) p).e = (flGo f n m m (p + 1)).e ∧ ((flGo f n m m (p + 1)).e = 0 → (flGo f n (m + 1) (m + 1) p).L = f p :: (flGo f n m m (p + 1)).L ∧ (flGo f n (m + 1) (m + 1) p).p = (flGo f n m m (p + 1)).p)) ∨
    (p + 1 ≤ n ∧ n < p + 2 ∧ Has8 (f p) 8 ∧ (flGo f n (m + 1) (m + 1) p).e = 3) ∨
    (p + 2 ≤ n ∧ Has8 (f p) 8 ∧ (m : Int) < f (p + 1) ∧ (flGo f n (m + 1) (m + 1) p).e = 4) ∨
    (∃ j : Nat, p + 2 ≤ n ∧ Has8 (f p) 8 ∧ f (p + 1) = (j : Int) ∧ j ≤ m ∧ (flGo f n (m + 1) (m + 1) p).e = (flGo f n (m - j) (m - j) (p + 2)).e ∧
      ((flGo f n (m - j) (m - j) (p + 2)).e = 0 → (flGo f n (m + 1) (m + 1) p).L = List.replicate (j + 1) (f p) ++ (flGo f n (m - j) (m - j) (p + 2)).L ∧ (flGo f n (m + 1) (m + 1) p).p = (flGo f n (m - j) (m - j) (p + 2)).p)) := by
  rw [fl_cons]
  by_cases h1 : n < p + 1
  · exact .inl ⟨h1, by rw [if_pos h1]⟩
  · by_cases h8 : Has8 (f p) 8
    · rw [if_neg h1, if_pos h8]
      by_cases h2 : n < p + 2
      · exact .inr (.inr (.inl ⟨by omega, h2, h8, by rw [if_pos h2]⟩))
      · rw [if_neg h2]
        by_cases h3 : (m : Int) < f (p + 1)
        · exact .inr (.inr (.inr (.inl ⟨by omega, h8, h3, by rw [if_pos h3]⟩)))
        · rw [if_neg h3]
          obtain ⟨j, hj⟩ := Int.eq_ofNat_of_zero_le (hf (p + 1) (by omega))
          refine .inr (.inr (.inr (.inr ⟨j, by omega, h8, hj, by omega, ?_⟩)))
          rw [hj, Int.toNat_natCast, fl_fuel f n hf m (m - j) (m - j) (p + 2) (by omega) (by omega)]
          by_cases h4 : (flGo f n (m - j) (m - j) (p + 2)).e ≠ 0
          · rw [if_pos h4]; exact ⟨rfl, fun h => absurd h h4⟩
          · rw [if_neg h4]; exact ⟨(Decidable.not_not.1 h4).symm, fun _ => ⟨rfl, rfl⟩⟩
    · rw [if_neg h1, if_neg h8]
      refine .inr (.inl ⟨by omega, h8, ?_⟩)
      by_cases h4 : (flGo f n m m (p + 1)).e ≠ 0
      · rw [if_pos h4]; exact ⟨rfl, fun h => absurd h h4⟩
      · rw [if_neg h4]; exact ⟨(Decidable.not_not.1 h4).symm, fun _ => ⟨rfl, rfl⟩⟩
end Go.Proofs.YteckkcpnfeoehaaDoor
