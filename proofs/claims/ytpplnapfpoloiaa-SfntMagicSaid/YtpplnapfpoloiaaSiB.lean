/-
  Layer 7: a whole glyph's bytes as lists of numbers: how many points each contour has, the points' numbers, the code; what any bytes read as. No walk.
-/
import Derived.Test.YtpplnapfpoloiaaSiA
namespace Go.Proofs.Ytpplnapfpoloiaa
open Go.RowKit
set_option linter.unusedVariables false
set_option linter.unusedSimpArgs false

/-- The last points of contours of so many points, from the last one on. -/
def ends7 (v : Int) : List Nat → List Int
  | [] => []
  | l :: r => (v + l) :: ends7 (v + l) r
theorem ends7_len : ∀ (ls : List Nat) (v : Int), (ends7 v ls).length = ls.length := by
  intro ls
  induction ls with
  | nil => intro v; rfl
  | cons l r ih => intro v; unfold ends7; rw [List.length_cons, List.length_cons, ih]
theorem ends7_get : ∀ (ls : List Nat) (v : Int) (j : Nat), j < ls.length → (ends7 v ls).getD j 0 = v + ((ls.take (j + 1)).sum : Nat) := by
  intro ls
  induction ls with
  | nil => intro v j hj; simp at hj
  | cons l r ih =>
    intro v j hj
    unfold ends7
    cases j with
    | zero => simp
    | succ j =>
      rw [List.getD_cons_succ, ih (v + l) j (by simpa using hj), List.take_succ_cons, List.sum_cons]
      omega
theorem sum_take_le (ls : List Nat) (j : Nat) : (ls.take j).sum ≤ ls.sum := by
  have h := List.take_append_drop j ls
  have : ls.sum = (ls.take j).sum + (ls.drop j).sum := by rw [← List.sum_append_nat, h]
  omega
theorem sum_take_lt (ls : List Nat) (h : ∀ l ∈ ls, 1 ≤ l) (j : Nat) (hj : j < ls.length) : (ls.take j).sum + 1 ≤ (ls.take (j + 1)).sum := by
  rw [List.take_succ_eq_append_getElem hj, List.sum_append_nat]
  have := h ls[j] (List.getElem_mem hj)
  simp; omega
theorem len_le_sum (ls : List Nat) (h : ∀ l ∈ ls, 1 ≤ l) : ls.length ≤ ls.sum := by
  induction ls with
  | nil => simp
  | cons l r ih =>
    have h1 := h l (by simp)
    have h2 := ih (fun x hx => h x (by simp [hx]))
    rw [List.sum_cons, List.length_cons]; omega
/-- Numbers of two bytes in a row. -/
theorem nums_at {f : Nat → Int} {p : Nat} : ∀ (l : List Int) (p : Nat), AtL f p (nums8 l) → ∀ j, j < l.length → numAt f (p + 2 * j) 2 = l.getD j 0 % 65536 := by
  intro l
  induction l with
  | nil => intro p _ j hj; simp at hj
  | cons x r ih =>
    intro p h j hj
    have h' : AtL f p (putL x 2 ++ nums8 r) := by simpa [nums8] using h
    obtain ⟨h1, h2⟩ := AtL.app h' rfl
    cases j with
    | zero => rw [Nat.mul_zero, Nat.add_zero, atL_put2 h1]; rfl
    | succ j =>
      rw [putL_len] at h2
      rw [show p + 2 * (j + 1) = p + 2 + 2 * j by omega, ih (p + 2) h2 j (by simpa using hj), List.getD_cons_succ]

structure An7 where
  (e : Int) (E : List Int) (s m : Nat) (G X Y : List Int)
def no7 (e : Int) : An7 := ⟨e, [], 0, 0, [], [], []⟩
def en7 (f : Nat → Int) (i : Nat) : Int := numAt f (10 + 2 * i) 2
/-- Behind the contours' last points. -/
def rdB7 (f : Nat → Int) (n k m : Nat) : An7 :=
  if n < 12 + 2 * k then no7 3
  else if (n : Int) < 12 + 2 * k + numAt f (10 + 2 * k) 2 then no7 3
  else if (knGo f n m (12 + 2 * k + (numAt f (10 + 2 * k) 2).toNat)).e ≠ 0 then no7 (knGo f n m (12 + 2 * k + (numAt f (10 + 2 * k) 2).toNat)).e
  else ⟨0, (List.range k).map (en7 f), 12 + 2 * k, (numAt f (10 + 2 * k) 2).toNat, (knGo f n m (12 + 2 * k + (numAt f (10 + 2 * k) 2).toNat)).G, (knGo f n m (12 + 2 * k + (numAt f (10 + 2 * k) 2).toNat)).X, (knGo f n m (12 + 2 * k + (numAt f (10 + 2 * k) 2).toNat)).Y⟩
def rdA7 (f : Nat → Int) (n k : Nat) : An7 :=
  if n < 10 + 2 * k then no7 3
  else if ∃ i, i < k ∧ 0 < i ∧ en7 f i ≤ en7 f (i - 1) then no7 12
  else if 4096 ≤ en7 f (k - 1) then no7 7
  else rdB7 f n k (en7 f (k - 1) + 1).toNat
def rdAns7 (f : Nat → Int) (n : Nat) : An7 :=
  if n = 0 then no7 0
  else if n < 10 then no7 3
  else if s2 f 0 < 0 then no7 11
  else if s2 f 0 = 0 then no7 0
  else rdA7 f n (s2 f 0).toNat
/-- A glyph's bytes: so many points a contour, a box, a code, the points' numbers. -/
def wrB7 (ls : List Nat) (box c xs ys : List Int) (os : List Bool) : List Int :=
  putL ls.length 2 ++ (nums8 box ++ (nums8 (ends7 (-1) ls) ++ (putL c.length 2 ++ (c ++ kn7 xs ys os))))
theorem wrB7_len (ls : List Nat) (box c xs ys : List Int) (os : List Bool) (hb : box.length = 4) : (wrB7 ls box c xs ys os).length = 12 + 2 * ls.length + c.length + (kn7 xs ys os).length := by
  unfold wrB7
  simp only [List.length_append, putL_len, nums8_len, ends7_len, hb]; omega
theorem back7 (f : Nat → Int) (n : Nat) (ls : List Nat) (box c xs ys : List Int) (os : List Bool) (hb : box.length = 4) (hl0 : ls ≠ []) (hl : ∀ l ∈ ls, 1 ≤ l) (hs : ls.sum = xs.length) (hm : xs.length ≤ 4096) (hc : c.length ≤ 65535)
    (h1 : xs.length = ys.length) (h2 : xs.length = os.length) (k1 : StepsOk 0 xs) (k2 : StepsOk 0 ys) (hat : AtL f 0 (wrB7 ls box c xs ys os)) :
    ((wrB7 ls box c xs ys os).length ≤ n → ∃ gs, rdAns7 f n = ⟨0, ends7 (-1) ls, 12 + 2 * ls.length, c.length, gs, xs, ys⟩ ∧ gs.map (fun g => decide (Has8 g 1)) = os ∧ ∀ j, j < c.length → f (12 + 2 * ls.length + j) = c.getD j 0) ∧
    (0 < n → n < (wrB7 ls box c xs ys os).length → rdAns7 f n = no7 3) := by
  rw [wrB7_len _ _ _ _ _ _ hb]
  unfold wrB7 at hat
  obtain ⟨a0, a1⟩ := AtL.app hat rfl
  obtain ⟨_, a1⟩ := AtL.app a1 rfl
  obtain ⟨a2, a3⟩ := AtL.app a1 rfl
  obtain ⟨a3, a4⟩ := AtL.app a3 rfl
  obtain ⟨a4, a5⟩ := AtL.app a4 rfl
  simp only [putL_len, nums8_len, ends7_len, hb] at a2 a3 a4 a5
  have hll := len_le_sum ls hl
  have hlp : 0 < ls.length := List.length_pos_iff.2 hl0
  have es : s2 f 0 = (ls.length : Int) := by
    unfold s2
    exact atL_s2 a0 ⟨by omega, by omega⟩
  have een : ∀ i, i < ls.length → en7 f i = (ends7 (-1) ls).getD i 0 := by
    intro i hi
    unfold en7
    have := nums_at (p := 0) (ends7 (-1) ls) _ a2 i (by rw [ends7_len]; exact hi)
    rw [show 0 + 2 + 2 * 4 + 2 * i = 10 + 2 * i by omega] at this
    rw [this, ends7_get ls (-1) i hi]
    have s1 := sum_take_le ls (i + 1)
    have s2 := sum_take_lt ls hl i hi
    omega
  have ec : numAt f (10 + 2 * ls.length) 2 = (c.length : Int) := by
    have := atL_put2 a3
    rw [show 0 + 2 + 2 * 4 + 2 * ls.length = 10 + 2 * ls.length by omega] at this
    rw [this]; omega
  have eE : (List.range ls.length).map (en7 f) = ends7 (-1) ls := by
    apply List.ext_getElem
    · simp [ends7_len]
    · intro i hi _
      have := een i (by simpa using hi)
      simp only [List.getElem_map, List.getElem_range]
      rw [this, List.getD_eq_getElem?_getD, List.getElem?_eq_getElem (by rw [ends7_len]; simpa using hi)]
      rfl
  have elast : en7 f (ls.length - 1) = (xs.length : Int) - 1 := by
    rw [een _ (by omega), ends7_get ls (-1) _ (by omega), show ls.length - 1 + 1 = ls.length by omega, List.take_length, hs]; omega
  have eord : ¬ ∃ i, i < ls.length ∧ 0 < i ∧ en7 f i ≤ en7 f (i - 1) := by
    rintro ⟨i, i1, i2, i3⟩
    rw [een i i1, een (i - 1) (by omega), ends7_get _ _ _ i1, ends7_get _ _ _ (by omega : i - 1 < ls.length), show i - 1 + 1 = i by omega] at i3
    have := sum_take_lt ls hl i i1
    omega
  have e12 : 0 + 2 + 2 * 4 + 2 * ls.length + 2 = 12 + 2 * ls.length := by omega
  rw [e12] at a4 a5
  obtain ⟨b1, b2⟩ := kn_back f n (12 + 2 * ls.length + c.length) xs ys os h1 h2 k1 k2 a5
  have hxs : (en7 f (ls.length - 1) + 1).toNat = xs.length := by rw [elast]; omega
  unfold rdAns7
  constructor
  · intro hn
    obtain ⟨gs, g1, g2⟩ := b1 hn
    refine ⟨gs, ?_, g2, fun j hj => a4 j hj⟩
    rw [if_neg (by omega), if_neg (by omega), es, if_neg (by omega), if_neg (by omega), Int.toNat_natCast]
    unfold rdA7
    rw [if_neg (by omega), if_neg eord, if_neg (by omega), hxs]
    unfold rdB7
    rw [if_neg (by omega), ec, if_neg (by omega), Int.toNat_natCast, g1, eE]
    simp
  · intro h0 hn

    rw [if_neg (by omega)]
    by_cases c1 : n < 10
    · rw [if_pos c1]
    · rw [if_neg c1, es, if_neg (by omega), if_neg (by omega), Int.toNat_natCast]
      unfold rdA7
      by_cases c2 : n < 10 + 2 * ls.length
      · rw [if_pos c2]
      · rw [if_neg c2, if_neg eord, if_neg (by omega), hxs]
        unfold rdB7
        by_cases c3 : n < 12 + 2 * ls.length
        · rw [if_pos c3]
        · rw [if_neg c3, ec]
          by_cases c4 : (n : Int) < 12 + 2 * ls.length + c.length
          · rw [if_pos c4]
          · rw [if_neg c4, Int.toNat_natCast, b2 (by omega) hn]
            simp

/-- Points cut into contours by the contours' last points. -/
def cutE7 {α : Type} : Nat → List Int → List α → List (List α)
  | _, [], _ => []
  | a, e :: r, K => ((K.take (e + 1).toNat).drop a) :: cutE7 (e + 1).toNat r K
theorem cutE7_ends {α : Type} : ∀ (Z : List (List α)) (A : List α), cutE7 A.length (ends7 ((A.length : Int) - 1) (Z.map List.length)) (A ++ Z.flatten) = Z := by
  intro Z
  induction Z with
  | nil => intro A; rfl
  | cons c Z ih =>
    intro A
    rw [List.map_cons]
    unfold ends7 cutE7
    have e1 : ((A.length : Int) - 1 + (c.length : Int) + 1).toNat = (A ++ c).length := by rw [List.length_append]; omega
    have e2 : (A.length : Int) - 1 + (c.length : Int) = ((A ++ c).length : Int) - 1 := by rw [List.length_append]; omega
    have e3 : A ++ (c :: Z).flatten = (A ++ c) ++ Z.flatten := by rw [List.flatten_cons, List.append_assoc]
    rw [e1, e2, e3, ih (A ++ c), List.take_left', List.drop_left]
    rfl
theorem cutE7_all {α : Type} (Z : List (List α)) : cutE7 0 (ends7 (-1) (Z.map List.length)) Z.flatten = Z := by
  have := cutE7_ends Z []
  simpa using this
/-- Points out of three lists. -/
def zip7 {α : Type} (mk : Int → Int → Bool → α) : List Int → List Int → List Bool → List α
  | x :: xs, y :: ys, o :: os => mk x y o :: zip7 mk xs ys os
  | _, _, _ => []
theorem zip7_map {α : Type} {mk : Int → Int → Bool → α} {fx fy : α → Int} {fo : α → Bool} (h : ∀ k, mk (fx k) (fy k) (fo k) = k) : ∀ K : List α, zip7 mk (K.map fx) (K.map fy) (K.map fo) = K := by
  intro K
  induction K with
  | nil => rfl
  | cons k K ih => simp only [List.map_cons, zip7, h k, ih]
def StepsOkB (v : Int) : List Int → Bool
  | [] => true
  | x :: r => decide (Sh (x - v)) && (decide (Sh x) && StepsOkB x r)
theorem stepsOkB_iff : ∀ (l : List Int) (v : Int), StepsOkB v l = true ↔ StepsOk v l := by
  intro l
  induction l with
  | nil => intro v; simp [StepsOkB, StepsOk]
  | cons x r ih => intro v; simp [StepsOkB, StepsOk, ih x]
instance (v : Int) (l : List Int) : Decidable (StepsOk v l) := decidable_of_iff _ (stepsOkB_iff l v)
/-- Why a glyph can't be written; 0: it can. -/
def wrE7 (ls : List Nat) (c xs ys : List Int) : Int :=
  if ls = [] then (if c = [] then 0 else 4)
  else if 0 ∈ ls then 4
  else if 4096 < ls.sum ∨ 65535 < c.length then 7
  else if StepsOk 0 xs ∧ StepsOk 0 ys then 0 else 6
theorem wrE7_ok {ls : List Nat} {c xs ys : List Int} (h0 : ls ≠ []) (h : wrE7 ls c xs ys = 0) : (∀ l ∈ ls, 1 ≤ l) ∧ ls.sum ≤ 4096 ∧ c.length ≤ 65535 ∧ StepsOk 0 xs ∧ StepsOk 0 ys := by
  unfold wrE7 at h
  rw [if_neg h0] at h
  by_cases h1 : 0 ∈ ls
  · rw [if_pos h1] at h; cases h
  · rw [if_neg h1] at h
    by_cases h2 : 4096 < ls.sum ∨ 65535 < c.length
    · rw [if_pos h2] at h; cases h
    · rw [if_neg h2] at h
      by_cases h3 : StepsOk 0 xs ∧ StepsOk 0 ys
      · refine ⟨fun l hl => ?_, by omega, by omega, h3.1, h3.2⟩
        rcases Nat.eq_zero_or_pos l with rfl | hp
        · exact absurd hl h1
        · exact hp
      · rw [if_neg h3] at h; cases h
/-- The bytes of a glyph that can be written. -/
def wr7 (ls : List Nat) (box c xs ys : List Int) (os : List Bool) : List Int := if ls = [] then [] else wrB7 ls box c xs ys os

/-- The least and the greatest of numbers; 0 of none. -/
def mn7 (l : List Int) : Int := l.foldl min (l.headD 0)
def mx7 (l : List Int) : Int := l.foldl max (l.headD 0)
theorem foldl_min_add (d : Int) : ∀ (l : List Int) (a : Int), (l.map (· + d)).foldl min (a + d) = l.foldl min a + d := by
  intro l
  induction l with
  | nil => intro a; rfl
  | cons x r ih =>
    intro a
    rw [List.map_cons, List.foldl_cons, List.foldl_cons, show min (a + d) (x + d) = min a x + d by omega, ih]
theorem foldl_max_add (d : Int) : ∀ (l : List Int) (a : Int), (l.map (· + d)).foldl max (a + d) = l.foldl max a + d := by
  intro l
  induction l with
  | nil => intro a; rfl
  | cons x r ih =>
    intro a
    rw [List.map_cons, List.foldl_cons, List.foldl_cons, show max (a + d) (x + d) = max a x + d by omega, ih]
theorem mn7_add {l : List Int} (h : l ≠ []) (d : Int) : mn7 (l.map (· + d)) = mn7 l + d := by
  cases l with
  | nil => exact absurd rfl h
  | cons x r => exact foldl_min_add d (x :: r) x
theorem mx7_add {l : List Int} (h : l ≠ []) (d : Int) : mx7 (l.map (· + d)) = mx7 l + d := by
  cases l with
  | nil => exact absurd rfl h
  | cons x r => exact foldl_max_add d (x :: r) x
theorem mn7_snoc (l : List Int) (x : Int) : mn7 (l ++ [x]) = if l = [] then x else min (mn7 l) x := by
  cases l with
  | nil => simp [mn7]
  | cons a r => rw [if_neg (by simp)]; unfold mn7; rw [List.foldl_append]; rfl
theorem mx7_snoc (l : List Int) (x : Int) : mx7 (l ++ [x]) = if l = [] then x else max (mx7 l) x := by
  cases l with
  | nil => simp [mx7]
  | cons a r => rw [if_neg (by simp)]; unfold mx7; rw [List.foldl_append]; rfl
theorem foldl_min_sh : ∀ (l : List Int) (a : Int), Sh a → (∀ x ∈ l, Sh x) → Sh (l.foldl min a) := by
  intro l
  induction l with
  | nil => intro a h _; exact h
  | cons x r ih =>
    intro a h k
    refine ih _ ?_ (fun y hy => k y (by simp [hy]))
    have := k x (by simp)
    unfold Sh at *
    omega
theorem foldl_max_sh : ∀ (l : List Int) (a : Int), Sh a → (∀ x ∈ l, Sh x) → Sh (l.foldl max a) := by
  intro l
  induction l with
  | nil => intro a h _; exact h
  | cons x r ih =>
    intro a h k
    refine ih _ ?_ (fun y hy => k y (by simp [hy]))
    have := k x (by simp)
    unfold Sh at *
    omega
theorem stepsOk_sh : ∀ (l : List Int) (v : Int), StepsOk v l → ∀ x ∈ l, Sh x := by
  intro l
  induction l with
  | nil => intro v _ x hx; cases hx
  | cons y r ih =>
    intro v h x hx
    obtain ⟨_, h2, h3⟩ := h
    rcases List.mem_cons.1 hx with rfl | hx
    · exact h2
    · exact ih y h3 x hx
/-- A glyph's box. -/
def box7 (xs ys : List Int) : List Int := [mn7 xs, mn7 ys, mx7 xs, mx7 ys]
theorem box7_len (xs ys : List Int) : (box7 xs ys).length = 4 := rfl
/-- How long a glyph's bytes are. -/
theorem short7 (ls : List Nat) (c xs ys : List Int) (os : List Bool) (h0 : ls ≠ []) (hl : ∀ l ∈ ls, 1 ≤ l) (hs : ls.sum = xs.length) (h1 : xs.length = ys.length) (h2 : xs.length = os.length) :
    (wr7 ls (box7 xs ys) c xs ys os).length ≤ 12 + 2 * ls.length + c.length + 5 * xs.length ∧ 12 + 2 * ls.length + c.length < (wr7 ls (box7 xs ys) c xs ys os).length := by
  unfold wr7
  rw [if_neg h0, wrB7_len _ _ _ _ _ _ (box7_len xs ys)]
  obtain ⟨a, b⟩ := kn7_len xs ys os h1 h2
  have hp := len_le_sum ls hl
  have hq : 0 < ls.length := List.length_pos_iff.2 h0
  have := b (by intro e; rw [e] at hs; simp at hs; rw [hs] at hp; omega)
  omega
/-- Flags and numbers as a loop comes to them: one more behind those that are there. -/
theorem fls7_snoc : ∀ (xs ys : List Int) (os : List Bool) (vx vy x y : Int) (o : Bool), xs.length = ys.length → xs.length = os.length →
    fls7 vx vy (xs ++ [x]) (ys ++ [y]) (os ++ [o]) = fls7 vx vy xs ys os ++ [fl7 o (x - xs.getLastD vx) (y - ys.getLastD vy)] := by
  intro xs
  induction xs with
  | nil =>
    intro ys os vx vy x y o h1 h2
    cases ys with
    | cons b ys => simp at h1
    | nil =>
      cases os with
      | cons b os => simp at h2
      | nil => rfl
  | cons a xs ih =>
    intro ys os vx vy x y o h1 h2
    cases ys with
    | nil => simp at h1
    | cons b ys =>
      cases os with
      | nil => simp at h2
      | cons q os =>
        rw [List.cons_append, List.cons_append, List.cons_append]
        unfold fls7
        rw [ih ys os a b x y o (by simpa using h1) (by simpa using h2), List.cons_append, List.getLastD_cons, List.getLastD_cons]
theorem stps7_snoc : ∀ (xs : List Int) (v x : Int), stps7 v (xs ++ [x]) = stps7 v xs ++ stp7 (x - xs.getLastD v) := by
  intro xs
  induction xs with
  | nil => intro v x; simp [stps7]
  | cons a xs ih => intro v x; rw [List.cons_append]; unfold stps7; rw [ih, List.append_assoc, List.getLastD_cons]
theorem stepsOk_snoc : ∀ (xs : List Int) (v x : Int), StepsOk v (xs ++ [x]) ↔ StepsOk v xs ∧ Sh (x - xs.getLastD v) ∧ Sh x := by
  intro xs
  induction xs with
  | nil => intro v x; simp [StepsOk]
  | cons a xs ih => intro v x; rw [List.cons_append]; unfold StepsOk; rw [ih, List.getLastD_cons]; constructor <;> (intro h; obtain ⟨h1, h2⟩ := h; simp_all)
end Go.Proofs.Ytpplnapfpoloiaa
