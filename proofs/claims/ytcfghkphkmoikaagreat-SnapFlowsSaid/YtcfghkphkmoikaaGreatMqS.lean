/-
  Texts of this seat, put together: each with its own head.
-/
import Derived.Test.YtcfghkphkmoikaaGreatPxM
import Derived.Test.YtcfghkphkmoikaaGreatMqQ
import Derived.Test.YtcfghkphkmoikaaGreatMqE
import Derived.Test.YtcfghkphkmoikaaGreatMqM

/-
  Layer 17: a line that goes through a pixel touches each box that holds it; a search in groups of eight finds all that is to be found (pure: no walk).
-/
namespace Go.Proofs.YtcfghkphkmoikaaGreat
set_option maxRecDepth 100000
set_option linter.unusedVariables false
/-- In one coordinate, does the way from 0 to twice v stay farther than r from c? -/
def awayB (c v r : Int) : Bool := decide (c + r < min 0 (2 * v)) || decide (max 0 (2 * v) < c - r)
/-- May a line have a point in common with the pixels of a box? -/
def tchB (ax ay bx bz lx ly mx my : Int) : Bool :=
  !(awayB (64 * (lx + mx) - 2 * ax) (bx - ax) (64 * (mx - lx + 1)) || awayB (64 * (ly + my) - 2 * ay) (bz - ay) (64 * (my - ly + 1))) &&
  decide (max ((bx - ax) * (64 * (ly + my) - 2 * ay) - (bz - ay) * (64 * (lx + mx) - 2 * ax)) (-((bx - ax) * (64 * (ly + my) - 2 * ay) - (bz - ay) * (64 * (lx + mx) - 2 * ax))) ≤ max (bx - ax) (-(bx - ax)) * (64 * (my - ly + 1)) + max (bz - ay) (-(bz - ay)) * (64 * (mx - lx + 1)))
theorem am_le {u w r : Int} (h1 : -r ≤ w) (h2 : w ≤ r) : u * w ≤ max u (-u) * r ∧ -(max u (-u) * r) ≤ u * w := by
  rcases Int.le_total 0 u with h | h
  · rw [show max u (-u) = u by omega]
    have k1 := Int.mul_le_mul_of_nonneg_left h2 h
    have k2 := Int.mul_le_mul_of_nonneg_left h1 h
    rw [Int.mul_neg] at k2
    exact ⟨k1, k2⟩
  · rw [show max u (-u) = -u by omega]
    have k1 := Int.mul_le_mul_of_nonneg_left (show -w ≤ r by omega) (show 0 ≤ -u by omega)
    have k2 := Int.mul_le_mul_of_nonneg_left h2 (show 0 ≤ -u by omega)
    rw [Int.neg_mul_neg] at k1
    rw [Int.neg_mul] at k2
    exact ⟨k1, by omega⟩
/-- A row of pixels, in twice the numbers. -/
theorem row_two {a b lo hi x p q : Int} (hq : 0 < q) (h : rowS a b x p q) (h1 : lo ≤ x) (h2 : x ≤ hi) : (64 * (lo + hi) - 2 * a - 64 * (hi - lo + 1)) * q ≤ 2 * (p * (b - a)) ∧ 2 * (p * (b - a)) < (64 * (lo + hi) - 2 * a + 64 * (hi - lo + 1)) * q := by
  obtain ⟨k1, k2⟩ := h
  have m1 := Int.mul_le_mul_of_nonneg_right (show 64 * lo - 32 ≤ 64 * x - 32 by omega) (show 0 ≤ q by omega)
  have m2 := Int.mul_le_mul_of_nonneg_right (show 64 * x + 32 ≤ 64 * hi + 32 by omega) (show 0 ≤ q by omega)
  have e1 : (64 * (lo + hi) - 2 * a - 64 * (hi - lo + 1)) * q = 2 * ((64 * lo - 32) * q) - 2 * (a * q) := by grind
  have e2 : (64 * (lo + hi) - 2 * a + 64 * (hi - lo + 1)) * q = 2 * ((64 * hi + 32) * q) - 2 * (a * q) := by grind
  omega
theorem away_no {c v r p q : Int} (hq : 0 < q) (hp : 0 ≤ p) (hpq : p ≤ q) (h1 : (c - r) * q ≤ 2 * (p * v)) (h2 : 2 * (p * v) < (c + r) * q) : awayB c v r = false := by
  unfold awayB
  rw [Bool.or_eq_false_iff, decide_eq_false_iff_not, decide_eq_false_iff_not]
  rcases Int.le_total 0 v with hv | hv
  · have a1 := Int.mul_nonneg hp hv
    have a2 := Int.mul_le_mul_of_nonneg_right hpq hv
    constructor
    · intro h
      have h3 := Int.mul_le_mul_of_nonneg_right (show c + r ≤ 0 by omega) (show 0 ≤ q by omega)
      rw [Int.zero_mul] at h3
      omega
    · intro h
      have h3 := Int.mul_lt_mul_of_pos_right (show 2 * v < c - r by omega) hq
      have e : 2 * v * q = 2 * (q * v) := by grind
      omega
  · have a1 := Int.mul_nonneg hp (show 0 ≤ -v by omega)
    have a2 := Int.mul_le_mul_of_nonneg_right hpq (show 0 ≤ -v by omega)
    rw [Int.mul_neg] at a1
    rw [Int.mul_neg, Int.mul_neg] at a2
    constructor
    · intro h
      have h3 := Int.mul_lt_mul_of_pos_right (show c + r < 2 * v by omega) hq
      have e : 2 * v * q = 2 * (q * v) := by grind
      omega
    · intro h
      have h3 := Int.mul_lt_mul_of_pos_right (show 0 < c - r by omega) hq
      rw [Int.zero_mul] at h3
      omega
/-- A line that goes through a pixel touches each box that holds it. -/
theorem tch_hit {ax ay bx bz x y lx ly mx my : Int} (h : HitG ax ay bx bz x y) (h1 : lx ≤ x) (h2 : x ≤ mx) (h3 : ly ≤ y) (h4 : y ≤ my) : tchB ax ay bx bz lx ly mx my = true := by
  obtain ⟨p, q, hq, hp, hpq, k1, k2⟩ := h
  obtain ⟨i1, i2⟩ := row_two hq k1 h1 h2
  obtain ⟨j1, j2⟩ := row_two hq k2 h3 h4
  unfold tchB
  rw [away_no hq hp hpq i1 i2, away_no hq hp hpq j1 j2]
  simp only [Bool.or_self, Bool.not_false, Bool.true_and, decide_eq_true_eq]
  generalize 64 * (lx + mx) - 2 * ax = c at *
  generalize 64 * (ly + my) - 2 * ay = d at *
  generalize 64 * (mx - lx + 1) = r at *
  generalize 64 * (my - ly + 1) = s at *
  generalize bx - ax = u at *
  generalize bz - ay = v at *
  have e1 : (c - r) * q = c * q - r * q := by grind
  have e2 : (c + r) * q = c * q + r * q := by grind
  have e3 : (d - s) * q = d * q - s * q := by grind
  have e4 : (d + s) * q = d * q + s * q := by grind
  obtain ⟨a1, a2⟩ := am_le (u := u) (w := d * q - 2 * (p * v)) (r := s * q) (by omega) (by omega)
  obtain ⟨b1, b2⟩ := am_le (u := v) (w := c * q - 2 * (p * u)) (r := r * q) (by omega) (by omega)
  have e5 : (u * d - v * c) * q = u * (d * q - 2 * (p * v)) - v * (c * q - 2 * (p * u)) := by grind
  have e6 : (max u (-u) * s + max v (-v) * r) * q = max u (-u) * (s * q) + max v (-v) * (r * q) := by grind
  have l1 : (u * d - v * c) * q ≤ (max u (-u) * s + max v (-v) * r) * q := by omega
  have l2 : (-(u * d - v * c)) * q ≤ (max u (-u) * s + max v (-v) * r) * q := by rw [Int.neg_mul]; omega
  have m1 := Int.le_of_mul_le_mul_right l1 hq
  have m2 := Int.le_of_mul_le_mul_right l2 hq
  omega
/-- A search among things that stand in groups of eight, groups of groups and so on. -/
def srch {α β : Type} (T0 : α → Bool) (T : β → Bool) (P : List α) (LV : Nat → List β) : Nat → Nat → List α
  | 0, i => match P[i]? with
    | some p => if T0 p then [p] else []
    | none => []
  | k + 1, i => match (LV k)[i]? with
    | some b => if T b then (List.range 8).flatMap (fun j => srch T0 T P LV k (8 * i + j)) else []
    | none => []
theorem seg_all {α : Type} (P : List α) (a m : Nat) : ∀ n, (List.range n).flatMap (fun j => (P.drop (a + m * j)).take m) = (P.drop a).take (m * n)
  | 0 => by simp
  | n + 1 => by
    rw [List.range_succ, List.flatMap_append, seg_all P a m n, Nat.mul_succ, List.take_add]
    simp [List.drop_drop]
theorem flatMap_sub {α γ : Type} {f g : γ → List α} (h : ∀ x, (f x).Sublist (g x)) : ∀ l : List γ, (l.flatMap f).Sublist (l.flatMap g)
  | [] => by simp
  | x :: r => by
    rw [List.flatMap_cons, List.flatMap_cons]
    exact (h x).append (flatMap_sub h r)
theorem srch_sub {α β : Type} (T0 : α → Bool) (T : β → Bool) (P : List α) (LV : Nat → List β) : ∀ k i, (srch T0 T P LV k i).Sublist ((P.drop (8 ^ k * i)).take (8 ^ k))
  | 0, i => by
    unfold srch
    cases h : P[i]? with
    | none => simp
    | some p =>
      have hl : i < P.length := by
        rcases Nat.lt_or_ge i P.length with h2 | h2
        · exact h2
        · rw [List.getElem?_eq_none h2] at h; cases h
      have hp : P[i] = p := by rw [List.getElem?_eq_getElem hl] at h; exact Option.some.inj h
      have e : (P.drop (8 ^ 0 * i)).take (8 ^ 0) = [p] := by
        rw [Nat.pow_zero, Nat.one_mul, List.drop_eq_getElem_cons hl, hp]; rfl
      rw [e]
      show (if T0 p then [p] else []).Sublist [p]
      split
      · exact List.Sublist.refl _
      · exact List.nil_sublist _
  | k + 1, i => by
    unfold srch
    cases h : (LV k)[i]? with
    | none => exact List.nil_sublist _
    | some b =>
      show (if T b then (List.range 8).flatMap (fun j => srch T0 T P LV k (8 * i + j)) else []).Sublist _
      split
      · have := flatMap_sub (fun j => srch_sub T0 T P LV k (8 * i + j)) (List.range 8)
        have e : (fun j => (P.drop (8 ^ k * (8 * i + j))).take (8 ^ k)) = fun j => (P.drop (8 ^ (k + 1) * i + 8 ^ k * j)).take (8 ^ k) := by
          funext j
          rw [show 8 ^ k * (8 * i + j) = 8 ^ (k + 1) * i + 8 ^ k * j by rw [Nat.pow_succ]; grind]
        rw [e, seg_all, ← Nat.pow_succ] at this
        exact this
      · exact List.nil_sublist _
theorem srch_mem {α β : Type} {T0 : α → Bool} {T : β → Bool} {P : List α} {LV : Nat → List β} {p : α} {n : Nat} (h0 : T0 p = true) (hB : ∀ k i j, k < n → P[j]? = some p → 8 ^ (k + 1) * i ≤ j → j < 8 ^ (k + 1) * (i + 1) → ∃ b, (LV k)[i]? = some b ∧ T b = true) : ∀ k i j, k ≤ n → P[j]? = some p → 8 ^ k * i ≤ j → j < 8 ^ k * (i + 1) → p ∈ srch T0 T P LV k i
  | 0, i, j, _, hj, h1, h2 => by
    have e : i = j := by simp at h1 h2; omega
    subst e
    unfold srch
    rw [hj]
    show p ∈ (if T0 p then [p] else [])
    rw [if_pos h0]; simp
  | k + 1, i, j, hk, hj, h1, h2 => by
    obtain ⟨b, e, hb⟩ := hB k i j (by omega) hj h1 h2
    unfold srch
    rw [e]
    show p ∈ (if T b then (List.range 8).flatMap (fun j => srch T0 T P LV k (8 * i + j)) else [])
    rw [if_pos hb, List.mem_flatMap]
    rw [Nat.pow_succ] at h1 h2
    have hp : 0 < 8 ^ k := Nat.pow_pos (by omega)
    have hd := Nat.div_add_mod j (8 ^ k)
    have hm := Nat.mod_lt j hp
    have q1 : 8 * i ≤ j / 8 ^ k := by
      rw [Nat.le_div_iff_mul_le hp]
      have : 8 * i * 8 ^ k = 8 ^ k * 8 * i := by grind
      omega
    have q2 : j / 8 ^ k < 8 * i + 8 := by
      rw [Nat.div_lt_iff_lt_mul hp]
      have : (8 * i + 8) * 8 ^ k = 8 ^ k * 8 * (i + 1) := by grind
      omega
    refine ⟨j / 8 ^ k - 8 * i, by rw [List.mem_range]; omega, ?_⟩
    rw [show 8 * i + (j / 8 ^ k - 8 * i) = j / 8 ^ k by omega]
    refine srch_mem h0 hB k (j / 8 ^ k) j (by omega) hj ?_ ?_
    · omega
    · rw [Nat.mul_succ]; omega
/-- What is left of a list and of a part of it, where all that is to be left is in that part. -/
theorem sub_filter {α : Type} {f : α → Bool} : ∀ {S P : List α}, S.Sublist P → P.Nodup → (∀ p ∈ P, f p = true → p ∈ S) → S.filter f = P.filter f
  | _, _, .slnil, _, _ => rfl
  | _, _, .cons (l₁ := S) (l₂ := P) a h, hn, hf => by
    obtain ⟨h1, h2⟩ := List.nodup_cons.1 hn
    have ha : f a = false := by
      cases e : f a with
      | false => rfl
      | true => exact absurd (h.subset (hf a (by simp) e)) h1
    rw [List.filter_cons, ha]
    exact sub_filter h h2 (fun p hp e => hf p (List.mem_cons_of_mem _ hp) e)
  | _, _, .cons_cons (l₁ := S) (l₂ := P) a h, hn, hf => by
    obtain ⟨h1, h2⟩ := List.nodup_cons.1 hn
    have ih := sub_filter (f := f) h h2 (fun p hp e => by
      rcases List.mem_cons.1 (hf p (List.mem_cons_of_mem _ hp) e) with rfl | h3
      · exact absurd hp h1
      · exact h3)
    rw [List.filter_cons, List.filter_cons, ih]
end Go.Proofs.YtcfghkphkmoikaaGreat

/-
  Layer 17: chains and edges, known by what is in them; edges counted one by one (pure: no walk).
-/
namespace Go.Proofs.YtcfghkphkmoikaaGreat
set_option maxRecDepth 100000
set_option linter.unusedVariables false
instance : DecidableEq Pq := fun p q => decidable_of_iff (p.x = q.x ∧ p.y = q.y) (by cases p; cases q; simp)
/-- A list without a thing twice, in an order, is known by what is in it. -/
theorem ord_same {α : Type} {R : α → α → Prop} (irr : ∀ x, ¬ R x x) (asy : ∀ x y, R x y → ¬ R y x) : ∀ {L M : List α}, L.Pairwise R → M.Pairwise R → (∀ x, x ∈ L ↔ x ∈ M) → L = M
  | [], [], _, _, _ => rfl
  | [], m :: M, _, _, h => by have := (h m).2 (by simp); cases this
  | l :: L, [], _, _, h => by have := (h l).1 (by simp); cases this
  | l :: L, m :: M, hl, hm, h => by
    obtain ⟨l1, l2⟩ := List.pairwise_cons.1 hl
    obtain ⟨m1, m2⟩ := List.pairwise_cons.1 hm
    have e : l = m := by
      rcases List.mem_cons.1 ((h l).1 (by simp)) with e | e
      · exact e
      · rcases List.mem_cons.1 ((h m).2 (by simp)) with f | f
        · exact f.symm
        · exact absurd (l1 m f) (asy _ _ (m1 l e))
    subst e
    congr 1
    refine ord_same irr asy l2 m2 fun x => ⟨fun hx => ?_, fun hx => ?_⟩
    · rcases List.mem_cons.1 ((h x).1 (List.mem_cons_of_mem _ hx)) with rfl | h3
      · exact absurd (l1 _ hx) (irr _)
      · exact h3
    · rcases List.mem_cons.1 ((h x).2 (List.mem_cons_of_mem _ hx)) with rfl | h3
      · exact absurd (m1 _ hx) (irr _)
      · exact h3
/-- Which pixel comes first along a way: sx, sy: it leads to greater X, Y. -/
def AhP (sx sy : Bool) (p q : Pq) : Prop := if p.x = q.x then (if sy then p.y < q.y else q.y < p.y) else (if sx then p.x < q.x else q.x < p.x)
instance (sx sy : Bool) (p q : Pq) : Decidable (AhP sx sy p q) := by unfold AhP; infer_instance
theorem ah_irr {sx sy : Bool} (p : Pq) : ¬ AhP sx sy p p := by
  unfold AhP; rw [if_pos rfl]; cases sy <;> simp
theorem ah_tr {sx sy : Bool} {p q r : Pq} (h : AhP sx sy p q) (k : AhP sx sy q r) : AhP sx sy p r := by
  unfold AhP at *
  cases sx <;> cases sy <;> simp only [if_true, if_false, Bool.false_eq_true] at * <;> (repeat' split at *) <;> omega
theorem ah_asy {sx sy : Bool} (p q : Pq) (h : AhP sx sy p q) : ¬ AhP sx sy q p := fun k => ah_irr p (ah_tr h k)
theorem ah_tri {sx sy : Bool} {p q : Pq} (h : p ≠ q) : AhP sx sy p q ∨ AhP sx sy q p := by
  have hne : p.x ≠ q.x ∨ p.y ≠ q.y := by
    rcases Decidable.em (p.x = q.x) with e | e
    · right; intro f; apply h; cases p; cases q; simp_all
    · exact .inl e
  unfold AhP
  cases sx <;> cases sy <;> simp only [if_true, if_false, Bool.false_eq_true] <;> (repeat' split) <;> omega
/-- A chain: what is left of pixels, in the order of a way. -/
def ChainL (sx sy : Bool) (f : Pq → Bool) (H C : List Pq) : Prop := C.Pairwise (AhP sx sy) ∧ ∀ p, p ∈ C ↔ p ∈ H ∧ f p = true
theorem chain_same {sx sy : Bool} {f : Pq → Bool} {H C D : List Pq} (h : ChainL sx sy f H C) (k : ChainL sx sy f H D) : C = D :=
  ord_same ah_irr ah_asy h.1 k.1 fun x => (h.2 x).trans (k.2 x).symm
theorem chain_nil {sx sy : Bool} {f : Pq → Bool} : ChainL sx sy f [] [] := ⟨List.Pairwise.nil, fun p => by simp⟩
theorem chain_skip {sx sy : Bool} {f : Pq → Bool} {H C : List Pq} {p : Pq} (h : ChainL sx sy f H C) (hp : f p = false) : ChainL sx sy f (H ++ [p]) C :=
  ⟨h.1, fun q => by
    rw [h.2 q, List.mem_append, List.mem_singleton]
    constructor
    · exact fun ⟨a, b⟩ => ⟨.inl a, b⟩
    · rintro ⟨a | rfl, b⟩
      · exact ⟨a, b⟩
      · rw [hp] at b; cases b⟩
/-- One more pixel, put where it belongs. -/
theorem chain_put {sx sy : Bool} {f : Pq → Bool} {H C : List Pq} {p : Pq} (h : ChainL sx sy f H C) (hp : f p = true) (hn : p ∉ H) {i : Nat} (hi : i ≤ C.length) (h1 : ∀ q ∈ C.drop i, AhP sx sy p q) (h2 : ∀ q, 0 < i → C[i - 1]? = some q → ¬ AhP sx sy p q) : ChainL sx sy f (H ++ [p]) (C.take i ++ p :: C.drop i) := by
  have hC : p ∉ C := fun e => hn ((h.2 p).1 e).1
  have hpw := h.1
  rw [← List.take_append_drop i C, List.pairwise_append] at hpw
  obtain ⟨w1, w2, w3⟩ := hpw
  have hb : ∀ q ∈ C.take i, AhP sx sy q p := by
    intro q hq
    rcases Nat.eq_zero_or_pos i with h0 | h0
    · rw [h0] at hq; simp at hq
    · have hl : i - 1 < C.length := by omega
      have hlast : C[i - 1]? = some C[i - 1] := List.getElem?_eq_getElem hl
      have hne : p ≠ C[i - 1] := fun e => hC (by rw [e]; exact List.getElem_mem hl)
      have ha : AhP sx sy C[i - 1] p := (ah_tri hne).resolve_left (h2 _ h0 hlast)
      have ht : C.take i = C.take (i - 1) ++ [C[i - 1]] := by
        conv => lhs; rw [show i = i - 1 + 1 by omega]
        exact List.take_succ_eq_append_getElem hl
      rw [ht] at hq w1
      rcases List.mem_append.1 hq with hq | hq
      · exact ah_tr ((List.pairwise_append.1 w1).2.2 q hq _ (by simp)) ha
      · rw [List.mem_singleton.1 hq]; exact ha
  refine ⟨List.pairwise_append.2 ⟨w1, List.pairwise_cons.2 ⟨h1, w2⟩, fun q hq r hr => ?_⟩, fun q => ?_⟩
  · rcases List.mem_cons.1 hr with rfl | hr
    · exact hb q hq
    · exact w3 q hq r hr
  · have hm : q ∈ C ↔ q ∈ C.take i ∨ q ∈ C.drop i := by rw [← List.mem_append, List.take_append_drop]
    have hh := h.2 q
    rw [List.mem_append, List.mem_cons, List.mem_append, List.mem_singleton]
    constructor
    · rintro (a | rfl | a)
      · obtain ⟨k1, k2⟩ := hh.1 (hm.2 (.inl a)); exact ⟨.inl k1, k2⟩
      · exact ⟨.inr rfl, hp⟩
      · obtain ⟨k1, k2⟩ := hh.1 (hm.2 (.inr a)); exact ⟨.inl k1, k2⟩
    · rintro ⟨a | rfl, b⟩
      · rcases hm.1 (hh.2 ⟨a, b⟩) with k | k
        · exact .inl k
        · exact .inr (.inr k)
      · exact .inr (.inl rfl)
/-- An edge. -/
structure Eg where
  (a b : Pq) (m n : Int)
def LtE (e f : Eg) : Prop := LtP e.a f.a ∨ (e.a = f.a ∧ LtP e.b f.b)
theorem ltE_irr (e : Eg) : ¬ LtE e e := fun h => by
  rcases h with h | h
  · exact ltP_irr h
  · exact ltP_irr h.2
theorem ltE_tr {e f g : Eg} (h : LtE e f) (k : LtE f g) : LtE e g := by
  unfold LtE at *
  rcases h with h | ⟨h1, h2⟩
  · rcases k with k | ⟨k1, k2⟩
    · exact .inl (ltP_tr h k)
    · exact .inl (by rw [← k1]; exact h)
  · rcases k with k | ⟨k1, k2⟩
    · exact .inl (by rw [h1]; exact k)
    · exact .inr ⟨h1.trans k1, ltP_tr h2 k2⟩
theorem ltE_asy (e f : Eg) (h : LtE e f) : ¬ LtE f e := fun k => ltE_irr e (ltE_tr h k)
/-- How often there is a step from one pixel to another, less how often back. -/
def cntZ (S : List (Pq × Pq)) (a b : Pq) : Int := (S.count (a, b) : Int) - (S.count (b, a) : Int)
theorem cnt_rev (S : List (Pq × Pq)) (a b : Pq) : cntZ S b a = - cntZ S a b := by unfold cntZ; omega
theorem cnt_snoc (S : List (Pq × Pq)) (p q a b : Pq) : cntZ (S ++ [(p, q)]) a b = cntZ S a b + (if (p, q) = (a, b) then 1 else 0) - (if (p, q) = (b, a) then 1 else 0) := by
  unfold cntZ
  rw [List.count_append, List.count_append, List.count_singleton, List.count_singleton]
  simp only [beq_iff_eq]
  split <;> split <;> omega
/-- The edges that steps of two operands come to. -/
def EdgeL (S0 S1 : List (Pq × Pq)) (E : List Eg) : Prop := E.Pairwise LtE ∧ ∀ e, e ∈ E ↔ LtP e.a e.b ∧ e.m = cntZ S0 e.a e.b ∧ e.n = cntZ S1 e.a e.b ∧ ¬ (e.m = 0 ∧ e.n = 0)
theorem edge_same {S0 S1 : List (Pq × Pq)} {E F : List Eg} (h : EdgeL S0 S1 E) (k : EdgeL S0 S1 F) : E = F :=
  ord_same ltE_irr ltE_asy h.1 k.1 fun x => (h.2 x).trans (k.2 x).symm
/-- Edges as they are counted: those that come to nothing stay, and others may be left out. -/
def CntL (S0 S1 : List (Pq × Pq)) (E : List Eg) : Prop := E.Pairwise LtE ∧ (∀ e ∈ E, LtP e.a e.b ∧ e.m = cntZ S0 e.a e.b ∧ e.n = cntZ S1 e.a e.b) ∧ ∀ a b, LtP a b → ¬ (cntZ S0 a b = 0 ∧ cntZ S1 a b = 0) → ∃ e ∈ E, e.a = a ∧ e.b = b
theorem cnt_edge {S0 S1 : List (Pq × Pq)} {E : List Eg} (h : CntL S0 S1 E) : EdgeL S0 S1 (E.filter (fun e => !(decide (e.m = 0) && decide (e.n = 0)))) := by
  obtain ⟨h1, h2, h3⟩ := h
  refine ⟨h1.filter _, fun e => ?_⟩
  rw [List.mem_filter]
  constructor
  · rintro ⟨a, b⟩
    obtain ⟨k1, k2, k3⟩ := h2 e a
    refine ⟨k1, k2, k3, fun ⟨z1, z2⟩ => ?_⟩
    rw [decide_eq_true z1, decide_eq_true z2] at b; cases b
  · rintro ⟨k1, k2, k3, k4⟩
    obtain ⟨f, hf, e1, e2⟩ := h3 e.a e.b k1 (by rw [← k2, ← k3]; exact k4)
    obtain ⟨_, j2, j3⟩ := h2 f hf
    have e : e = f := by
      cases e; cases f
      simp only at *
      subst e1 e2
      rw [k2, k3, j2, j3]
    subst e
    refine ⟨hf, ?_⟩
    simp only [Bool.not_eq_true', Bool.and_eq_false_iff, decide_eq_false_iff_not]
    by_cases z : e.m = 0
    · exact .inr fun z2 => k4 ⟨z, z2⟩
    · exact .inl z
theorem ltP_ne {p q : Pq} (h : LtP p q) : p ≠ q := fun e => ltP_irr (by rw [e] at h; exact h)
theorem ltP_asy {p q : Pq} (h : LtP p q) : ¬ LtP q p := fun k => ltP_irr (ltP_tr h k)
/-- What one step more changes. -/
theorem cnt_up {S : List (Pq × Pq)} {p q : Pq} (h : LtP p q) (u v : Pq) (huv : LtP u v) : cntZ (S ++ [(p, q)]) u v = cntZ S u v + if u = p ∧ v = q then 1 else 0 := by
  rw [cnt_snoc]
  have h2 : ¬ (p, q) = (v, u) := fun e => by
    injection e with e1 e2
    subst e1 e2
    exact ltP_asy h huv
  rw [if_neg h2]
  by_cases e : u = p ∧ v = q
  · rw [if_pos e, if_pos (by rw [e.1, e.2])]; omega
  · rw [if_neg e, if_neg (fun f => e (by injection f with f1 f2; exact ⟨f1.symm, f2.symm⟩))]; omega
theorem cnt_down {S : List (Pq × Pq)} {p q : Pq} (h : LtP q p) (u v : Pq) (huv : LtP u v) : cntZ (S ++ [(p, q)]) u v = cntZ S u v + if u = q ∧ v = p then -1 else 0 := by
  rw [cnt_snoc]
  have h2 : ¬ (p, q) = (u, v) := fun e => by
    injection e with e1 e2
    subst e1 e2
    exact ltP_asy h huv
  rw [if_neg h2]
  by_cases e : u = q ∧ v = p
  · rw [if_pos e, if_pos (by rw [e.1, e.2])]; omega
  · rw [if_neg e, if_neg (fun f => e (by injection f with f1 f2; exact ⟨f2.symm, f1.symm⟩))]; omega
/-- An edge that is there is counted once more. -/
theorem cntL_upd {S0 S1 T0 T1 : List (Pq × Pq)} {E : List Eg} {a b : Pq} {d0 d1 : Int} (h : CntL S0 S1 E) (e0 : ∀ u v, LtP u v → cntZ T0 u v = cntZ S0 u v + if u = a ∧ v = b then d0 else 0) (e1 : ∀ u v, LtP u v → cntZ T1 u v = cntZ S1 u v + if u = a ∧ v = b then d1 else 0) {i : Nat} {e : Eg} (he : E[i]? = some e) (ha : e.a = a) (hb : e.b = b) : CntL T0 T1 (E.set i ⟨a, b, e.m + d0, e.n + d1⟩) := by
  obtain ⟨h1, h2, h3⟩ := h
  have hl : i < E.length := by
    rcases Nat.lt_or_ge i E.length with h | h
    · exact h
    · rw [List.getElem?_eq_none h] at he; cases he
  have hE : E = E.take i ++ e :: E.drop (i + 1) := by
    have e2 : E[i] = e := by rw [List.getElem?_eq_getElem hl] at he; exact Option.some.inj he
    rw [← e2, List.getElem_cons_drop hl, List.take_append_drop]
  have hS : E.set i ⟨a, b, e.m + d0, e.n + d1⟩ = E.take i ++ ⟨a, b, e.m + d0, e.n + d1⟩ :: E.drop (i + 1) := List.set_eq_take_append_cons_drop.trans (by rw [if_pos hl])
  rw [hS]
  have hlt : ∀ f, LtE f ⟨a, b, e.m + d0, e.n + d1⟩ ↔ LtE f e := fun f => by unfold LtE; rw [← ha, ← hb]
  have hgt : ∀ f, LtE ⟨a, b, e.m + d0, e.n + d1⟩ f ↔ LtE e f := fun f => by unfold LtE; rw [← ha, ← hb]
  rw [hE, List.pairwise_append, List.pairwise_cons] at h1
  obtain ⟨w1, ⟨w2, w3⟩, w4⟩ := h1
  have hoth : ∀ f, f ∈ E.take i ∨ f ∈ E.drop (i + 1) → f ∈ E ∧ ¬ (f.a = a ∧ f.b = b) := by
    intro f hf
    refine ⟨by rw [hE, List.mem_append, List.mem_cons]; rcases hf with hf | hf; exact .inl hf; exact .inr (.inr hf), fun ⟨k1, k2⟩ => ?_⟩
    rcases hf with hf | hf
    · have := w4 f hf e (by simp)
      unfold LtE at this
      rw [ha, hb, k1, k2] at this
      rcases this with k | k
      · exact ltP_irr k
      · exact ltP_irr k.2
    · have := w2 f hf
      unfold LtE at this
      rw [ha, hb, k1, k2] at this
      rcases this with k | k
      · exact ltP_irr k
      · exact ltP_irr k.2
  have hem : e ∈ E := by rw [hE]; simp
  obtain ⟨k1, k2, k3⟩ := h2 e hem
  rw [ha, hb] at k1 k2 k3
  refine ⟨List.pairwise_append.2 ⟨w1, List.pairwise_cons.2 ⟨fun f hf => (hgt f).2 (w2 f hf), w3⟩, fun f hf g hg => ?_⟩, fun f hf => ?_, fun u v huv hnz => ?_⟩
  · rcases List.mem_cons.1 hg with rfl | hg
    · exact (hlt f).2 (w4 f hf e (by simp))
    · exact w4 f hf g (List.mem_cons_of_mem _ hg)
  · rw [List.mem_append, List.mem_cons] at hf
    rcases hf with hf | rfl | hf
    · obtain ⟨m1, m2⟩ := hoth f (.inl hf)
      obtain ⟨j1, j2, j3⟩ := h2 f m1
      exact ⟨j1, by rw [e0 _ _ j1, if_neg m2, j2]; omega, by rw [e1 _ _ j1, if_neg m2, j3]; omega⟩
    · exact ⟨k1, by rw [e0 _ _ k1, if_pos ⟨rfl, rfl⟩, ← k2], by rw [e1 _ _ k1, if_pos ⟨rfl, rfl⟩, ← k3]⟩
    · obtain ⟨m1, m2⟩ := hoth f (.inr hf)
      obtain ⟨j1, j2, j3⟩ := h2 f m1
      exact ⟨j1, by rw [e0 _ _ j1, if_neg m2, j2]; omega, by rw [e1 _ _ j1, if_neg m2, j3]; omega⟩
  · by_cases huv2 : u = a ∧ v = b
    · exact ⟨_, by rw [List.mem_append]; exact .inr (List.mem_cons_self ..), huv2.1.symm, huv2.2.symm⟩
    · rw [e0 _ _ huv, e1 _ _ huv, if_neg huv2, if_neg huv2, Int.add_zero, Int.add_zero] at hnz
      obtain ⟨f, hf, f1, f2⟩ := h3 u v huv hnz
      rw [hE, List.mem_append, List.mem_cons] at hf
      rcases hf with hf | rfl | hf
      · exact ⟨f, by rw [List.mem_append]; exact .inl hf, f1, f2⟩
      · exact absurd ⟨f1.symm.trans ha, f2.symm.trans hb⟩ huv2
      · exact ⟨f, by rw [List.mem_append]; exact .inr (List.mem_cons_of_mem _ hf), f1, f2⟩
/-- An edge that is not there is put where it belongs. -/
theorem cntL_ins {S0 S1 T0 T1 : List (Pq × Pq)} {E : List Eg} {a b : Pq} {d0 d1 : Int} (hab : LtP a b) (h : CntL S0 S1 E) (e0 : ∀ u v, LtP u v → cntZ T0 u v = cntZ S0 u v + if u = a ∧ v = b then d0 else 0) (e1 : ∀ u v, LtP u v → cntZ T1 u v = cntZ S1 u v + if u = a ∧ v = b then d1 else 0) {i : Nat} (hno : ∀ e ∈ E, ¬ (e.a = a ∧ e.b = b)) (hlt : ∀ e ∈ E.take i, LtE e ⟨a, b, 0, 0⟩) (hgt : ∀ e ∈ E.drop i, LtE ⟨a, b, 0, 0⟩ e) : CntL T0 T1 (E.take i ++ ⟨a, b, d0, d1⟩ :: E.drop i) := by
  obtain ⟨h1, h2, h3⟩ := h
  have hz : cntZ S0 a b = 0 ∧ cntZ S1 a b = 0 := by
    rcases Decidable.em (cntZ S0 a b = 0 ∧ cntZ S1 a b = 0) with k | k
    · exact k
    · obtain ⟨e, he, f1, f2⟩ := h3 a b hab k
      exact absurd ⟨f1, f2⟩ (hno e he)
  have hE := List.take_append_drop i E
  have hm : ∀ f, f ∈ E ↔ f ∈ E.take i ∨ f ∈ E.drop i := fun f => by rw [← List.mem_append, hE]
  rw [← hE, List.pairwise_append] at h1
  obtain ⟨w1, w2, w3⟩ := h1
  have hk : ∀ f ∈ E, LtP f.a f.b ∧ f.m = cntZ T0 f.a f.b ∧ f.n = cntZ T1 f.a f.b := fun f hf => by
    obtain ⟨j1, j2, j3⟩ := h2 f hf
    have := hno f hf
    exact ⟨j1, by rw [e0 _ _ j1, if_neg this, j2]; omega, by rw [e1 _ _ j1, if_neg this, j3]; omega⟩
  refine ⟨List.pairwise_append.2 ⟨w1, List.pairwise_cons.2 ⟨hgt, w2⟩, fun f hf g hg => ?_⟩, fun f hf => ?_, fun u v huv hnz => ?_⟩
  · rcases List.mem_cons.1 hg with rfl | hg
    · exact hlt f hf
    · exact w3 f hf g hg
  · rw [List.mem_append, List.mem_cons] at hf
    rcases hf with hf | rfl | hf
    · exact hk f ((hm f).2 (.inl hf))
    · exact ⟨hab, by rw [e0 _ _ hab, if_pos ⟨rfl, rfl⟩, hz.1]; simp, by rw [e1 _ _ hab, if_pos ⟨rfl, rfl⟩, hz.2]; simp⟩
    · exact hk f ((hm f).2 (.inr hf))
  · by_cases huv2 : u = a ∧ v = b
    · exact ⟨_, by rw [List.mem_append]; exact .inr (List.mem_cons_self ..), huv2.1.symm, huv2.2.symm⟩
    · rw [e0 _ _ huv, e1 _ _ huv, if_neg huv2, if_neg huv2, Int.add_zero, Int.add_zero] at hnz
      obtain ⟨f, hf, f1, f2⟩ := h3 u v huv hnz
      rcases (hm f).1 hf with hf | hf
      · exact ⟨f, by rw [List.mem_append]; exact .inl hf, f1, f2⟩
      · exact ⟨f, by rw [List.mem_append]; exact .inr (List.mem_cons_of_mem _ hf), f1, f2⟩
end Go.Proofs.YtcfghkphkmoikaaGreat

/-
  Layer 17: a chain begins and ends with the pixels of its line's ends (pure: no walk).
-/
namespace Go.Proofs.YtcfghkphkmoikaaGreat
set_option maxRecDepth 100000
set_option linter.unusedVariables false
theorem chain_head {sx sy : Bool} {f : Pq → Bool} {H C : List Pq} {a : Pq} (h : ChainL sx sy f H C) (ha : a ∈ C) (hm : ∀ r, f r = true → r = a ∨ AhP sx sy a r) : C.head? = some a := by
  cases C with
  | nil => cases ha
  | cons c r =>
    rcases List.mem_cons.1 ha with rfl | ha
    · rfl
    · exfalso
      have h1 := (List.pairwise_cons.1 h.1).1 a ha
      rcases hm c ((h.2 c).1 (by simp)).2 with rfl | k
      · exact ah_irr _ h1
      · exact ah_asy _ _ h1 k
theorem chain_last {sx sy : Bool} {f : Pq → Bool} {H C : List Pq} {b : Pq} (h : ChainL sx sy f H C) (hb : b ∈ C) (hm : ∀ r, f r = true → r = b ∨ AhP sx sy r b) : C.getLast? = some b := by
  have h0 : C ≠ [] := fun e => by rw [e] at hb; cases hb
  have e := List.dropLast_concat_getLast h0
  rw [List.getLast?_eq_some_getLast h0]
  congr 1
  have hp := h.1
  rw [← e, List.pairwise_append] at hp
  rw [← e, List.mem_append, List.mem_singleton] at hb
  rcases hb with hb | hb
  · exfalso
    have h1 := hp.2.2 b hb _ (List.mem_singleton.2 rfl)
    rcases hm _ ((h.2 _).1 (List.getLast_mem h0)).2 with k | k
    · rw [k] at h1; exact ah_irr _ h1
    · exact ah_asy _ _ h1 k
  · exact hb.symm
/-- A row that a way between two shares meets lies between the rows of its ends. -/
theorem row_mid {a b x p q : Int} (hq : 0 < q) (hp : 0 ≤ p) (hpq : p ≤ q) (h : rowS a b x p q) : (a ≤ b → pxI a ≤ x ∧ x ≤ pxI b) ∧ (b ≤ a → pxI b ≤ x ∧ x ≤ pxI a) := by
  obtain ⟨h1, h2⟩ := h
  have key : ∀ u : Int, u * q < (64 * x + 32) * q → pxI u ≤ x := fun u hu => by
    have := Int.lt_of_mul_lt_mul_right hu (by omega)
    unfold pxI; omega
  have key2 : ∀ u : Int, (64 * x - 32) * q ≤ u * q → x ≤ pxI u := fun u hu => by
    have := Int.le_of_mul_le_mul_right hu hq
    unfold pxI; omega
  constructor
  · intro hab
    have a1 := Int.mul_nonneg hp (show 0 ≤ b - a by omega)
    have a2 := Int.mul_le_mul_of_nonneg_right hpq (show 0 ≤ b - a by omega)
    have e : a * q + q * (b - a) = b * q := by grind
    exact ⟨key a (by omega), key2 b (by omega)⟩
  · intro hab
    have a1 := Int.mul_nonneg hp (show 0 ≤ a - b by omega)
    have a2 := Int.mul_le_mul_of_nonneg_right hpq (show 0 ≤ a - b by omega)
    have e : a * q + q * (b - a) = b * q := by grind
    have e1 : p * (a - b) = - (p * (b - a)) := by grind
    have e2 : q * (a - b) = - (q * (b - a)) := by grind
    exact ⟨key b (by omega), key2 a (by omega)⟩
theorem hit_ends (ax ay bx bz : Int) : HitG ax ay bx bz (pxI ax) (pxI ay) ∧ HitG ax ay bx bz (pxI bx) (pxI bz) := by
  constructor
  · refine ⟨0, 1, by omega, by omega, by omega, ?_, ?_⟩ <;> unfold rowS pxI <;> constructor <;> omega
  · refine ⟨1, 1, by omega, by omega, by omega, ?_, ?_⟩ <;> unfold rowS pxI <;> constructor <;> omega
theorem hit_from {ax ay bx bz : Int} {r : Pq} (h : HitG ax ay bx bz r.x r.y) : r = ⟨pxI ax, pxI ay⟩ ∨ AhP (decide (ax ≤ bx)) (decide (ay ≤ bz)) ⟨pxI ax, pxI ay⟩ r := by
  obtain ⟨p, q, hq, hp, hpq, k1, k2⟩ := h
  obtain ⟨x1, x2⟩ := row_mid hq hp hpq k1
  obtain ⟨y1, y2⟩ := row_mid hq hp hpq k2
  obtain ⟨rx, ry⟩ := r
  simp only at *
  by_cases e : rx = pxI ax ∧ ry = pxI ay
  · left; rw [e.1, e.2]
  · right
    unfold AhP
    by_cases c1 : ax ≤ bx <;> by_cases c2 : ay ≤ bz
    all_goals simp only [c1, c2, decide_true, decide_false, if_true, if_false, Bool.false_eq_true]
    · have := x1 c1; have := y1 c2
      split <;> omega
    · have := x1 c1; have := y2 (by omega)
      split <;> omega
    · have := x2 (by omega); have := y1 c2
      split <;> omega
    · have := x2 (by omega); have := y2 (by omega)
      split <;> omega
theorem hit_to {ax ay bx bz : Int} {r : Pq} (h : HitG ax ay bx bz r.x r.y) : r = ⟨pxI bx, pxI bz⟩ ∨ AhP (decide (ax ≤ bx)) (decide (ay ≤ bz)) r ⟨pxI bx, pxI bz⟩ := by
  obtain ⟨p, q, hq, hp, hpq, k1, k2⟩ := h
  obtain ⟨x1, x2⟩ := row_mid hq hp hpq k1
  obtain ⟨y1, y2⟩ := row_mid hq hp hpq k2
  obtain ⟨rx, ry⟩ := r
  simp only at *
  by_cases e : rx = pxI bx ∧ ry = pxI bz
  · left; rw [e.1, e.2]
  · right
    unfold AhP
    by_cases c1 : ax ≤ bx <;> by_cases c2 : ay ≤ bz
    all_goals simp only [c1, c2, decide_true, decide_false, if_true, if_false, Bool.false_eq_true]
    · have := x1 c1; have := y1 c2
      split <;> omega
    · have := x1 c1; have := y2 (by omega)
      split <;> omega
    · have := x2 (by omega); have := y1 c2
      split <;> omega
    · have := x2 (by omega); have := y2 (by omega)
      split <;> omega
end Go.Proofs.YtcfghkphkmoikaaGreat

/-
  Layer 17: edges of steps gone the other way, of operands changed; sums over edges (pure: no walk).
-/
namespace Go.Proofs.YtcfghkphkmoikaaGreat
set_option maxRecDepth 100000
set_option linter.unusedVariables false
/-- The steps of a chain. -/
def stp : List Pq → List (Pq × Pq)
  | [] => []
  | [_] => []
  | x :: y :: r => (x, y) :: stp (y :: r)
theorem stp_snoc (x y : Pq) : ∀ D : List Pq, stp (D ++ [x, y]) = stp (D ++ [x]) ++ [(x, y)]
  | [] => rfl
  | [d] => rfl
  | d :: e :: r => by
    have := stp_snoc x y (e :: r)
    simp only [List.cons_append, stp] at this ⊢
    rw [this]
theorem stp_rev : ∀ C : List Pq, stp C.reverse = ((stp C).map (fun s => (s.2, s.1))).reverse
  | [] => rfl
  | [x] => rfl
  | x :: y :: r => by
    have ih := stp_rev (y :: r)
    rw [List.reverse_cons] at ih
    rw [List.reverse_cons, List.reverse_cons, List.append_assoc, List.cons_append, List.nil_append, stp_snoc, ih]
    simp [stp]
theorem cnt_app (S T : List (Pq × Pq)) (a b : Pq) : cntZ (S ++ T) a b = cntZ S a b + cntZ T a b := by
  unfold cntZ; rw [List.count_append, List.count_append]; omega
theorem count_swap (S : List (Pq × Pq)) (a b : Pq) : (S.map (fun s => (s.2, s.1))).count (a, b) = S.count (b, a) := by
  induction S with
  | nil => rfl
  | cons s r ih =>
    obtain ⟨u, v⟩ := s
    rw [List.map_cons, List.count_cons, List.count_cons, ih]
    congr 1
    by_cases e : u = b ∧ v = a
    · rw [e.1, e.2]; simp
    · have e1 : ((v, u) == (a, b)) = false := by rw [beq_eq_false_iff_ne]; intro f; injection f with f1 f2; exact e ⟨f2, f1⟩
      have e2 : ((u, v) == (b, a)) = false := by rw [beq_eq_false_iff_ne]; intro f; injection f with f1 f2; exact e ⟨f1, f2⟩
      rw [e1, e2]
theorem cnt_stp_rev (C : List Pq) (a b : Pq) : cntZ (stp C.reverse) a b = - cntZ (stp C) a b := by
  rw [stp_rev]
  unfold cntZ
  rw [List.count_reverse, List.count_reverse, count_swap, count_swap]; omega
theorem cnt_flat {α : Type} {f g : α → List (Pq × Pq)} {a b : Pq} : ∀ {L : List α}, (∀ l ∈ L, cntZ (f l) a b = - cntZ (g l) a b) → cntZ (L.flatMap f) a b = - cntZ (L.flatMap g) a b
  | [], _ => by simp [cntZ]
  | l :: L, h => by
    rw [List.flatMap_cons, List.flatMap_cons, cnt_app, cnt_app, h l (by simp), cnt_flat (L := L) (fun x hx => h x (List.mem_cons_of_mem _ hx))]; omega
theorem edge_neg {S0 S1 T0 T1 : List (Pq × Pq)} {E : List Eg} (h : EdgeL S0 S1 E) (h0 : ∀ a b, cntZ T0 a b = - cntZ S0 a b) (h1 : ∀ a b, cntZ T1 a b = - cntZ S1 a b) : EdgeL T0 T1 (E.map (fun e => ⟨e.a, e.b, -e.m, -e.n⟩)) := by
  refine ⟨List.pairwise_map.2 h.1, fun e => ?_⟩
  rw [List.mem_map]
  constructor
  · rintro ⟨f, hf, rfl⟩
    obtain ⟨k1, k2, k3, k4⟩ := (h.2 f).1 hf
    exact ⟨k1, by rw [h0, ← k2], by rw [h1, ← k3], fun ⟨z1, z2⟩ => k4 ⟨by simp only at z1; omega, by simp only at z2; omega⟩⟩
  · rintro ⟨k1, k2, k3, k4⟩
    refine ⟨⟨e.a, e.b, -e.m, -e.n⟩, (h.2 _).2 ⟨k1, ?_, ?_, ?_⟩, by cases e; simp⟩
    · show -e.m = cntZ S0 e.a e.b
      rw [k2, h0]; omega
    · show -e.n = cntZ S1 e.a e.b
      rw [k3, h1]; omega
    · exact fun ⟨z1, z2⟩ => k4 ⟨by simp only at z1; omega, by simp only at z2; omega⟩
theorem edge_swap {S0 S1 : List (Pq × Pq)} {E : List Eg} (h : EdgeL S0 S1 E) : EdgeL S1 S0 (E.map (fun e => ⟨e.a, e.b, e.n, e.m⟩)) := by
  refine ⟨List.pairwise_map.2 h.1, fun e => ?_⟩
  rw [List.mem_map]
  constructor
  · rintro ⟨f, hf, rfl⟩
    obtain ⟨k1, k2, k3, k4⟩ := (h.2 f).1 hf
    exact ⟨k1, k3, k2, fun z => k4 ⟨z.2, z.1⟩⟩
  · rintro ⟨k1, k2, k3, k4⟩
    exact ⟨⟨e.a, e.b, e.n, e.m⟩, (h.2 _).2 ⟨k1, k3, k2, fun z => k4 ⟨z.2, z.1⟩⟩, by cases e; rfl⟩
/-- A sum over a list. -/
def smL {α : Type} (f : α → Int) (L : List α) : Int := (L.map f).foldr (· + ·) 0
theorem sm_nil {α : Type} (f : α → Int) : smL f [] = 0 := rfl
theorem sm_cons {α : Type} (f : α → Int) (x : α) (L : List α) : smL f (x :: L) = f x + smL f L := rfl
theorem sm_app {α : Type} (f : α → Int) (L M : List α) : smL f (L ++ M) = smL f L + smL f M := by
  induction L with
  | nil => rw [List.nil_append, sm_nil]; omega
  | cons x L ih => rw [List.cons_append, sm_cons, sm_cons, ih]; omega
theorem sm_filter {α : Type} (f : α → Int) (g : α → Bool) (h : ∀ x, g x = false → f x = 0) (L : List α) : smL f (L.filter g) = smL f L := by
  induction L with
  | nil => rfl
  | cons x L ih =>
    rw [List.filter_cons]
    cases e : g x
    · simp only [Bool.false_eq_true, if_false]; rw [ih, sm_cons, h x e]; omega
    · simp only [if_true]; rw [sm_cons, sm_cons, ih]
theorem sm_set {α : Type} (f : α → Int) {L : List α} {i : Nat} {x y : α} (h : L[i]? = some x) : smL f (L.set i y) = smL f L - f x + f y := by
  have hl : i < L.length := by
    rcases Nat.lt_or_ge i L.length with k | k
    · exact k
    · rw [List.getElem?_eq_none k] at h; cases h
  have e2 : L[i] = x := by rw [List.getElem?_eq_getElem hl] at h; exact Option.some.inj h
  have hL : L = L.take i ++ x :: L.drop (i + 1) := by rw [← e2, List.getElem_cons_drop hl, List.take_append_drop]
  have hS : L.set i y = L.take i ++ y :: L.drop (i + 1) := List.set_eq_take_append_cons_drop.trans (by rw [if_pos hl])
  rw [hS, sm_app, sm_cons]
  conv => rhs; rw [hL]
  rw [sm_app, sm_cons]; omega
theorem sm_put {α : Type} (f : α → Int) (L : List α) (i : Nat) (y : α) : smL f (L.take i ++ y :: L.drop i) = smL f L + f y := by
  rw [sm_app, sm_cons]
  conv => rhs; rw [← List.take_append_drop i L]
  rw [sm_app]; omega
/-- Where a key belongs. -/
theorem eg_place {E : List Eg} (h : E.Pairwise LtE) (k : Eg) (hno : ∀ e ∈ E, ¬ (e.a = k.a ∧ e.b = k.b)) : ∃ i, (∀ e ∈ E.take i, LtE e k) ∧ ∀ e ∈ E.drop i, LtE k e := by
  induction E with
  | nil => exact ⟨0, by simp, by simp⟩
  | cons e r ih =>
    obtain ⟨h1, h2⟩ := List.pairwise_cons.1 h
    have hne := hno e (by simp)
    have tri : LtE e k ∨ LtE k e := by
      have hp : e.a = k.a ∨ LtP e.a k.a ∨ LtP k.a e.a := by
        by_cases q : e.a = k.a
        · exact .inl q
        · right
          have : e.a.x ≠ k.a.x ∨ e.a.y ≠ k.a.y := by
            rcases Decidable.em (e.a.x = k.a.x) with u | u
            · right; intro v; apply q; rcases he : e.a with ⟨x, y⟩; rcases hk : k.a with ⟨x', y'⟩; rw [he, hk] at u v; simp only at u v; rw [u, v]
            · exact .inl u
          unfold LtP; omega
      have hq : e.b = k.b ∨ LtP e.b k.b ∨ LtP k.b e.b := by
        by_cases q : e.b = k.b
        · exact .inl q
        · right
          have : e.b.x ≠ k.b.x ∨ e.b.y ≠ k.b.y := by
            rcases Decidable.em (e.b.x = k.b.x) with u | u
            · right; intro v; apply q; rcases he : e.b with ⟨x, y⟩; rcases hk : k.b with ⟨x', y'⟩; rw [he, hk] at u v; simp only at u v; rw [u, v]
            · exact .inl u
          unfold LtP; omega
      unfold LtE
      rcases hp with p | p | p
      · rcases hq with q | q | q
        · exact absurd ⟨p, q⟩ hne
        · exact .inl (.inr ⟨p, q⟩)
        · exact .inr (.inr ⟨p.symm, q⟩)
      · exact .inl (.inl p)
      · exact .inr (.inl p)
    rcases tri with t | t
    · obtain ⟨i, k1, k2⟩ := ih h2 (fun f hf => hno f (List.mem_cons_of_mem _ hf))
      refine ⟨i + 1, fun f hf => ?_, fun f hf => k2 f (by simpa using hf)⟩
      rw [List.take_succ_cons] at hf
      rcases List.mem_cons.1 hf with rfl | hf
      · exact t
      · exact k1 f hf
    · refine ⟨0, by simp, fun f hf => ?_⟩
      rw [List.drop_zero] at hf
      rcases List.mem_cons.1 hf with rfl | hf
      · exact t
      · exact ltE_tr t (h1 f hf)
/-- What holds of the sums over edges. -/
structure SumE (W : Pq → Pq → Int) (S0 S1 : List (Pq × Pq)) (E : List Eg) : Prop where
  m : smL (fun e => e.m * W e.a e.b) E = smL (fun s => W s.1 s.2) S0
  n : smL (fun e => e.n * W e.a e.b) E = smL (fun s => W s.1 s.2) S1
  le : smL (fun e => max e.m (-e.m) + max e.n (-e.n)) E ≤ (S0.length : Int) + S1.length
  par : (smL (fun e => max e.m (-e.m) + max e.n (-e.n)) E - (S0.length : Int) - S1.length) % 2 = 0
theorem cnt_step {W : Pq → Pq → Int} {S0 S1 T0 T1 : List (Pq × Pq)} {E : List Eg} {a b : Pq} {d0 d1 : Int} (hab : LtP a b) (h : CntL S0 S1 E) (hs : SumE W S0 S1 E) (e0 : ∀ u v, LtP u v → cntZ T0 u v = cntZ S0 u v + if u = a ∧ v = b then d0 else 0) (e1 : ∀ u v, LtP u v → cntZ T1 u v = cntZ S1 u v + if u = a ∧ v = b then d1 else 0) (q0 : smL (fun s => W s.1 s.2) T0 = smL (fun s => W s.1 s.2) S0 + d0 * W a b) (q1 : smL (fun s => W s.1 s.2) T1 = smL (fun s => W s.1 s.2) S1 + d1 * W a b)
    (hd : (d0 = 0 ∧ (d1 = 1 ∨ d1 = -1)) ∨ ((d0 = 1 ∨ d0 = -1) ∧ d1 = 0)) (hl : (T0.length : Int) + T1.length = S0.length + S1.length + 1) : ∃ F, CntL T0 T1 F ∧ SumE W T0 T1 F := by
  obtain ⟨s1, s2, s3, s4⟩ := hs
  by_cases hex : ∃ (i : Nat) (e : Eg), E[i]? = some e ∧ e.a = a ∧ e.b = b
  · obtain ⟨i, e, he, ha, hb⟩ := hex
    refine ⟨_, cntL_upd h e0 e1 he ha hb, ?_, ?_, ?_, ?_⟩
    · rw [sm_set _ he, s1, q0]
      simp only [ha, hb]
      rw [Int.add_mul]; omega
    · rw [sm_set _ he, s2, q1]
      simp only [ha, hb]
      rw [Int.add_mul]; omega
    · rw [sm_set _ he]
      simp only
      omega
    · rw [sm_set _ he]
      simp only
      omega
  · have hno : ∀ e ∈ E, ¬ (e.a = a ∧ e.b = b) := fun e he k => by
      obtain ⟨i, hi⟩ := List.mem_iff_getElem?.1 he
      exact hex ⟨i, e, hi, k.1, k.2⟩
    obtain ⟨i, p1, p2⟩ := eg_place h.1 ⟨a, b, 0, 0⟩ hno
    refine ⟨_, cntL_ins hab h e0 e1 hno p1 p2 (i := i) (d0 := d0) (d1 := d1), ?_, ?_, ?_, ?_⟩
    · rw [sm_put, s1, q0]
    · rw [sm_put, s2, q1]
    · rw [sm_put]
      simp only
      omega
    · rw [sm_put]
      simp only
      omega
theorem snoc_ofS {w : List (Pq × Pq)} (h : w ≠ []) : ∃ x c, w = x ++ [c] := ⟨w.dropLast, w.getLast h, (List.dropLast_concat_getLast h).symm⟩
theorem ltP_trichotomy {p q : Pq} (h : p ≠ q) : LtP p q ∨ LtP q p := by
  have : p.x ≠ q.x ∨ p.y ≠ q.y := by
    rcases Decidable.em (p.x = q.x) with u | u
    · right; intro v; apply h; cases p; cases q; simp only at u v; rw [u, v]
    · exact .inl u
  unfold LtP; omega
theorem same_cnt {S : List (Pq × Pq)} {a b : Pq} (u v : Pq) (h : LtP u v) : cntZ S u v = cntZ S u v + if u = a ∧ v = b then 0 else 0 := by simp
/-- Whatever the steps are, there are edges that they come to; and what their sums are. -/
theorem cnt_ex {W : Pq → Pq → Int} (hW : ∀ a b, W b a = - W a b) : ∀ (k : Nat) (S0 S1 : List (Pq × Pq)), S0.length + S1.length = k → (∀ s ∈ S0, s.1 ≠ s.2) → (∀ s ∈ S1, s.1 ≠ s.2) → ∃ E, CntL S0 S1 E ∧ SumE W S0 S1 E
  | 0, S0, S1, hk, _, _ => by
    have a1 : S0 = [] := List.length_eq_zero_iff.1 (by omega)
    have a2 : S1 = [] := List.length_eq_zero_iff.1 (by omega)
    subst a1 a2
    exact ⟨[], ⟨List.Pairwise.nil, (fun e he => by cases he), (fun a b _ hz => absurd ⟨by simp [cntZ], by simp [cntZ]⟩ hz)⟩, rfl, rfl, by simp [sm_nil], by simp [sm_nil]⟩
  | k + 1, S0, S1, hk, h0, h1 => by
    by_cases hz : S1 = []
    · subst hz
      have hn : S0 ≠ [] := fun e => by rw [e] at hk; simp at hk
      obtain ⟨X, ⟨p, q⟩, rfl⟩ := snoc_ofS hn
      have hpq : p ≠ q := h0 (p, q) (by simp)
      obtain ⟨E, hE, hS⟩ := cnt_ex hW k X [] (by simp at hk ⊢; omega) (fun s hs => h0 s (by simp [hs])) (fun s hs => by cases hs)
      rcases ltP_trichotomy hpq with hl | hl
      · exact cnt_step hl hE hS (cnt_up hl) (same_cnt (a := p) (b := q)) (by rw [sm_app, sm_cons, sm_nil]; simp) (by simp) (.inr ⟨.inl rfl, rfl⟩) (by simp)
      · exact cnt_step hl hE hS (cnt_down hl) (same_cnt (a := q) (b := p)) (by rw [sm_app, sm_cons, sm_nil]; simp [hW q p]) (by simp) (.inr ⟨.inr rfl, rfl⟩) (by simp)
    · obtain ⟨X, ⟨p, q⟩, rfl⟩ := snoc_ofS hz
      have hpq : p ≠ q := h1 (p, q) (by simp)
      obtain ⟨E, hE, hS⟩ := cnt_ex hW k S0 X (by simp at hk ⊢; omega) h0 (fun s hs => h1 s (by simp [hs]))
      rcases ltP_trichotomy hpq with hl | hl
      · exact cnt_step hl hE hS (same_cnt (a := p) (b := q)) (cnt_up hl) (by simp) (by rw [sm_app, sm_cons, sm_nil]; simp) (.inl ⟨rfl, .inl rfl⟩) (by simp; omega)
      · exact cnt_step hl hE hS (same_cnt (a := q) (b := p)) (cnt_down hl) (by simp) (by rw [sm_app, sm_cons, sm_nil]; simp [hW q p]) (.inl ⟨rfl, .inr rfl⟩) (by simp; omega)
theorem edge_sum {W : Pq → Pq → Int} (hW : ∀ a b, W b a = - W a b) {S0 S1 : List (Pq × Pq)} (h0 : ∀ s ∈ S0, s.1 ≠ s.2) (h1 : ∀ s ∈ S1, s.1 ≠ s.2) {E : List Eg} (h : EdgeL S0 S1 E) : SumE W S0 S1 E := by
  obtain ⟨F, hF, s1, s2, s3, s4⟩ := cnt_ex hW _ S0 S1 rfl h0 h1
  have e := edge_same h (cnt_edge hF)
  have hg : ∀ x : Eg, (!(decide (x.m = 0) && decide (x.n = 0))) = false → x.m = 0 ∧ x.n = 0 := fun x hx => by simpa using hx
  rw [e]
  refine ⟨?_, ?_, ?_, ?_⟩
  · rw [sm_filter _ _ (fun x hx => by rw [(hg x hx).1, Int.zero_mul]), s1]
  · rw [sm_filter _ _ (fun x hx => by rw [(hg x hx).2, Int.zero_mul]), s2]
  · rw [sm_filter _ _ (fun x hx => by rw [(hg x hx).1, (hg x hx).2]; rfl)]; exact s3
  · rw [sm_filter _ _ (fun x hx => by rw [(hg x hx).1, (hg x hx).2]; rfl)]; exact s4
end Go.Proofs.YtcfghkphkmoikaaGreat

/-
  Layer 17: chains of lines gone the other way and of lines moved; sums of steps (pure: no walk).
-/
namespace Go.Proofs.YtcfghkphkmoikaaGreat
set_option maxRecDepth 100000
set_option linter.unusedVariables false
theorem stp_ne {sx sy : Bool} : ∀ {C : List Pq}, C.Pairwise (AhP sx sy) → ∀ s ∈ stp C, s.1 ≠ s.2
  | [], _, s, hs => by cases hs
  | [x], _, s, hs => by cases hs
  | x :: y :: r, h, s, hs => by
    obtain ⟨h1, h2⟩ := List.pairwise_cons.1 h
    rcases List.mem_cons.1 hs with rfl | hs
    · exact fun e => ah_irr x (by have := h1 y (by simp); simp only at e; rw [← e] at this; exact this)
    · exact stp_ne h2 s hs
theorem stp_len : ∀ C : List Pq, (stp C).length = C.length - 1
  | [] => rfl
  | [x] => rfl
  | x :: y :: r => by simp [stp, stp_len (y :: r)]
/-- Steps of a chain, summed up: from its first pixel to its last. -/
theorem stp_sum (g : Pq → Int) : ∀ (x : Pq) (r : List Pq) (b : Pq), (x :: r).getLast? = some b → smL (fun s : Pq × Pq => g s.1 - g s.2) (stp (x :: r)) = g x - g b
  | x, [], b, h => by
    simp only [List.getLast?_singleton, Option.some.injEq] at h
    subst h
    simp [stp, sm_nil]
  | x, y :: r, b, h => by
    have := stp_sum g y r b (by rw [List.getLast?_cons_cons] at h; exact h)
    show smL (fun s : Pq × Pq => g s.1 - g s.2) ((x, y) :: stp (y :: r)) = _
    rw [sm_cons, this]; simp only; omega
theorem chain_sum {g : Pq → Int} {C : List Pq} {a b : Pq} (ha : C.head? = some a) (hb : C.getLast? = some b) : smL (fun s : Pq × Pq => g s.1 - g s.2) (stp C) = g a - g b := by
  cases C with
  | nil => cases ha
  | cons x r =>
    injection ha with ha
    subst ha
    exact stp_sum g x r b hb
theorem sm_flat {α β : Type} (f : β → Int) (g : α → List β) (L : List α) : smL f (L.flatMap g) = smL (fun l => smL f (g l)) L := by
  induction L with
  | nil => rfl
  | cons x L ih => rw [List.flatMap_cons, sm_app, sm_cons, ih]
theorem sm_congr {α : Type} {f g : α → Int} {L : List α} (h : ∀ x ∈ L, f x = g x) : smL f L = smL g L := by
  induction L with
  | nil => rfl
  | cons x L ih => rw [sm_cons, sm_cons, h x (by simp), ih (fun y hy => h y (List.mem_cons_of_mem _ hy))]
theorem sm_sub {α : Type} (f g : α → Int) (L : List α) : smL (fun x => f x - g x) L = smL f L - smL g L := by
  induction L with
  | nil => rfl
  | cons x L ih => rw [sm_cons, sm_cons, sm_cons, ih]; omega
/-- On one line, what comes first on the way comes last on the way back. -/
theorem ah_rev {ax ay bx bz : Int} {p q : Pq} (hp : HitG ax ay bx bz p.x p.y) (hq : HitG ax ay bx bz q.x q.y) (h : AhP (decide (ax ≤ bx)) (decide (ay ≤ bz)) p q) : AhP (decide (bx ≤ ax)) (decide (bz ≤ ay)) q p := by
  obtain ⟨s, t, ht, hs, hst, k1, k2⟩ := hp
  obtain ⟨s', t', ht', hs', hst', j1, j2⟩ := hq
  obtain ⟨x1, x2⟩ := row_mid ht hs hst k1
  obtain ⟨y1, y2⟩ := row_mid ht hs hst k2
  obtain ⟨u1, u2⟩ := row_mid ht' hs' hst' j1
  obtain ⟨v1, v2⟩ := row_mid ht' hs' hst' j2
  have ex : ax = bx → p.x = q.x := fun e => by
    have a1 := x1 (by omega); have a2 := u1 (by omega)
    rw [e] at a1 a2; omega
  have ey : ay = bz → p.y = q.y := fun e => by
    have a1 := y1 (by omega); have a2 := v1 (by omega)
    rw [e] at a1 a2; omega
  unfold AhP at h ⊢
  by_cases c1 : ax ≤ bx <;> by_cases c2 : ay ≤ bz <;> by_cases c3 : bx ≤ ax <;> by_cases c4 : bz ≤ ay
  all_goals simp only [c1, c2, c3, c4, decide_true, decide_false, if_true, if_false, Bool.false_eq_true] at h ⊢
  all_goals (split at h <;> split <;> first | omega | (have := ex (by omega); omega) | (have := ey (by omega); omega))
theorem chain_rev {ax ay bx bz : Int} {f : Pq → Bool} {H C : List Pq} (hf : ∀ p, f p = true → HitG ax ay bx bz p.x p.y) (h : ChainL (decide (ax ≤ bx)) (decide (ay ≤ bz)) f H C) : ChainL (decide (bx ≤ ax)) (decide (bz ≤ ay)) f H C.reverse := by
  refine ⟨List.pairwise_reverse.2 (h.1.imp_of_mem fun {p q} hp hq k => ah_rev (hf p ((h.2 p).1 hp).2) (hf q ((h.2 q).1 hq).2) k), fun p => ?_⟩
  rw [List.mem_reverse]; exact h.2 p
/-- Pixels moved by whole units. -/
def shP (d e : Int) (p : Pq) : Pq := ⟨p.x + d, p.y + e⟩
theorem shP_inj {d e : Int} {p q : Pq} (h : shP d e p = shP d e q) : p = q := by
  unfold shP at h
  injection h with h1 h2
  cases p; cases q
  simp only at h1 h2
  congr 1 <;> omega
theorem ah_sh {sx sy : Bool} {d e : Int} (p q : Pq) : AhP sx sy (shP d e p) (shP d e q) ↔ AhP sx sy p q := by
  unfold AhP shP
  cases sx <;> cases sy <;> simp only [if_true, if_false, Bool.false_eq_true] <;> (repeat' split) <;> omega
theorem ltP_sh {d e : Int} (p q : Pq) : LtP (shP d e p) (shP d e q) ↔ LtP p q := by unfold LtP shP; simp only; omega
theorem chain_sh {sx sy : Bool} {f g : Pq → Bool} {H C : List Pq} {d e : Int} (hg : ∀ p, g (shP d e p) = f p) (h : ChainL sx sy f H C) : ChainL sx sy g (H.map (shP d e)) (C.map (shP d e)) := by
  refine ⟨List.pairwise_map.2 (h.1.imp fun {p q} k => (ah_sh p q).2 k), fun p => ?_⟩
  rw [List.mem_map, List.mem_map]
  constructor
  · rintro ⟨q, hq, rfl⟩
    obtain ⟨k1, k2⟩ := (h.2 q).1 hq
    exact ⟨⟨q, k1, rfl⟩, by rw [hg]; exact k2⟩
  · rintro ⟨⟨q, hq, rfl⟩, k⟩
    exact ⟨q, (h.2 q).2 ⟨hq, by rw [← hg (q)]; exact k⟩, rfl⟩
theorem stp_map (f : Pq → Pq) : ∀ C : List Pq, stp (C.map f) = (stp C).map (fun s => (f s.1, f s.2))
  | [] => rfl
  | [x] => rfl
  | x :: y :: r => by
    have := stp_map f (y :: r)
    simp only [List.map_cons, stp] at this ⊢
    rw [this]
theorem cnt_sh (S : List (Pq × Pq)) (d e : Int) (a b : Pq) : cntZ (S.map (fun s => (shP d e s.1, shP d e s.2))) (shP d e a) (shP d e b) = cntZ S a b := by
  have key : ∀ a b : Pq, (S.map (fun s => (shP d e s.1, shP d e s.2))).count (shP d e a, shP d e b) = S.count (a, b) := by
    intro a b
    induction S with
    | nil => rfl
    | cons s r ih =>
      obtain ⟨u, v⟩ := s
      rw [List.map_cons, List.count_cons, List.count_cons, ih]
      congr 1
      by_cases k : u = a ∧ v = b
      · rw [k.1, k.2]; simp
      · have e1 : ((shP d e u, shP d e v) == (shP d e a, shP d e b)) = false := by rw [beq_eq_false_iff_ne]; intro f; injection f with f1 f2; exact k ⟨shP_inj f1, shP_inj f2⟩
        have e2 : ((u, v) == (a, b)) = false := by rw [beq_eq_false_iff_ne]; intro f; injection f with f1 f2; exact k ⟨f1, f2⟩
        rw [e1, e2]
  unfold cntZ
  rw [key, key]
theorem sh_sh {d e : Int} (p : Pq) : shP d e (shP (-d) (-e) p) = p := by unfold shP; cases p; simp only; congr 1 <;> omega
theorem edge_sh {S0 S1 : List (Pq × Pq)} {E : List Eg} (d e : Int) (h : EdgeL S0 S1 E) : EdgeL (S0.map (fun s => (shP d e s.1, shP d e s.2))) (S1.map (fun s => (shP d e s.1, shP d e s.2))) (E.map (fun g => ⟨shP d e g.a, shP d e g.b, g.m, g.n⟩)) := by
  refine ⟨List.pairwise_map.2 (h.1.imp fun {f g} k => ?_), fun g => ?_⟩
  · unfold LtE at k ⊢
    simp only
    rcases k with k | ⟨k1, k2⟩
    · exact .inl ((ltP_sh _ _).2 k)
    · exact .inr ⟨by rw [k1], (ltP_sh _ _).2 k2⟩
  · rw [List.mem_map]
    constructor
    · rintro ⟨f, hf, rfl⟩
      obtain ⟨k1, k2, k3, k4⟩ := (h.2 f).1 hf
      exact ⟨(ltP_sh _ _).2 k1, by rw [cnt_sh]; exact k2, by rw [cnt_sh]; exact k3, k4⟩
    · rintro ⟨k1, k2, k3, k4⟩
      refine ⟨⟨shP (-d) (-e) g.a, shP (-d) (-e) g.b, g.m, g.n⟩, (h.2 _).2 ⟨(ltP_sh (d := -d) (e := -e) _ _).2 k1, ?_, ?_, k4⟩, by cases g; simp only [sh_sh]⟩
      · have := cnt_sh S0 d e (shP (-d) (-e) g.a) (shP (-d) (-e) g.b)
        rw [sh_sh, sh_sh] at this
        exact k2.trans this
      · have := cnt_sh S1 d e (shP (-d) (-e) g.a) (shP (-d) (-e) g.b)
        rw [sh_sh, sh_sh] at this
        exact k3.trans this
end Go.Proofs.YtcfghkphkmoikaaGreat

/-
  Layer 17: sums over closed lines; a table of pieces (pure: no walk).
-/
namespace Go.Proofs.YtcfghkphkmoikaaGreat
set_option maxRecDepth 100000
set_option linter.unusedVariables false
theorem sm_perm {α : Type} (f : α → Int) {L M : List α} (h : L.Perm M) : smL f L = smL f M := by
  induction h with
  | nil => rfl
  | cons x _ ih => rw [sm_cons, sm_cons, ih]
  | swap x y l => rw [sm_cons, sm_cons, sm_cons, sm_cons]; omega
  | trans _ _ h1 h2 => exact h1.trans h2
theorem sm_map {α β : Type} (g : β → Int) (A : α → β) (L : List α) : smL g (L.map A) = smL (fun l => g (A l)) L := by
  induction L with
  | nil => rfl
  | cons x L ih => rw [List.map_cons, sm_cons, sm_cons, ih]
/-- Where as many lines start at each point as end there, whatever is summed up over their ends comes to nothing. -/
theorem sm_closed {α β : Type} [DecidableEq β] {A B : α → β} {L : List α} (h : ∀ p, (L.map A).count p = (L.map B).count p) (g : β → Int) : smL (fun l => g (A l) - g (B l)) L = 0 := by
  rw [sm_sub, ← sm_map g A L, ← sm_map g B L, sm_perm g (List.perm_iff_count.2 h)]; omega
/-- Steps of the chains of lines: what they sum up to. -/
theorem flow_sum {α : Type} {L : List α} {ch : α → List Pq} {a b : α → Pq} (ha : ∀ l ∈ L, (ch l).head? = some (a l)) (hb : ∀ l ∈ L, (ch l).getLast? = some (b l)) (g : Pq → Int) : smL (fun s : Pq × Pq => g s.1 - g s.2) (L.flatMap (fun l => stp (ch l))) = smL (fun l => g (a l) - g (b l)) L := by
  rw [sm_flat]
  exact sm_congr fun l hl => chain_sum (ha l hl) (hb l hl)
def atP (p q : Pq) : Int := if q = p then 1 else 0
/-- As many edges come to a point as go from it. -/
theorem edge_flow {α : Type} {S0 S1 : List (Pq × Pq)} {E : List Eg} (h : EdgeL S0 S1 E) (h0 : ∀ s ∈ S0, s.1 ≠ s.2) (h1 : ∀ s ∈ S1, s.1 ≠ s.2) (p : Pq) : smL (fun e => e.m * (atP p e.a - atP p e.b)) E = smL (fun s : Pq × Pq => atP p s.1 - atP p s.2) S0 ∧ smL (fun e => e.n * (atP p e.a - atP p e.b)) E = smL (fun s : Pq × Pq => atP p s.1 - atP p s.2) S1 := by
  have k := edge_sum (W := fun a b => atP p a - atP p b) (fun a b => by omega) h0 h1 h
  exact ⟨k.m, k.n⟩
/-- Edges out of a table of pieces. -/
theorem edge_of {S0 S1 : List (Pq × Pq)} {E : List Eg} {V : Pq → Pq → Option (Int × Int)} (hE : E.Pairwise LtE) (hm : ∀ e, e ∈ E ↔ V e.a e.b = some (e.m, e.n) ∧ ¬ (e.m = 0 ∧ e.n = 0)) (h1 : ∀ a b m n, V a b = some (m, n) → LtP a b ∧ m = cntZ S0 a b ∧ n = cntZ S1 a b) (h2 : ∀ a b, LtP a b → V a b = none → cntZ S0 a b = 0 ∧ cntZ S1 a b = 0) : EdgeL S0 S1 E := by
  refine ⟨hE, fun e => ?_⟩
  rw [hm e]
  constructor
  · rintro ⟨k, hz⟩
    obtain ⟨j1, j2, j3⟩ := h1 _ _ _ _ k
    exact ⟨j1, j2, j3, hz⟩
  · rintro ⟨j1, j2, j3, hz⟩
    refine ⟨?_, hz⟩
    cases hV : V e.a e.b with
    | none =>
      obtain ⟨z1, z2⟩ := h2 _ _ j1 hV
      exact absurd ⟨by rw [j2, z1], by rw [j3, z2]⟩ hz
    | some v =>
      obtain ⟨m, n⟩ := v
      obtain ⟨_, i2, i3⟩ := h1 _ _ _ _ hV
      rw [j2, j3, i2, i3]
/-- A table of pieces that tells what steps come to. -/
def TabV (S0 S1 : List (Pq × Pq)) (V : Pq → Pq → Option (Int × Int)) : Prop := (∀ a b m n, V a b = some (m, n) → LtP a b ∧ m = cntZ S0 a b ∧ n = cntZ S1 a b) ∧ ∀ a b, LtP a b → V a b = none → cntZ S0 a b = 0 ∧ cntZ S1 a b = 0
theorem tab_nil : TabV [] [] (fun _ _ => none) := ⟨(fun a b m n h => by cases h), (fun a b _ _ => by simp [cntZ])⟩
def putV (V : Pq → Pq → Option (Int × Int)) (a b : Pq) (v : Int × Int) : Pq → Pq → Option (Int × Int) := fun u w => if u = a ∧ w = b then some v else V u w
theorem tab_put {S0 S1 T0 T1 : List (Pq × Pq)} {V : Pq → Pq → Option (Int × Int)} {a b : Pq} {d0 d1 : Int} (hab : LtP a b) (h : TabV S0 S1 V) (e0 : ∀ u v, LtP u v → cntZ T0 u v = cntZ S0 u v + if u = a ∧ v = b then d0 else 0) (e1 : ∀ u v, LtP u v → cntZ T1 u v = cntZ S1 u v + if u = a ∧ v = b then d1 else 0) : TabV T0 T1 (putV V a b (((V a b).getD (0, 0)).1 + d0, ((V a b).getD (0, 0)).2 + d1)) := by
  have hv : ((V a b).getD (0, 0)).1 = cntZ S0 a b ∧ ((V a b).getD (0, 0)).2 = cntZ S1 a b := by
    cases hV : V a b with
    | none => obtain ⟨z1, z2⟩ := h.2 a b hab hV; exact ⟨z1.symm, z2.symm⟩
    | some v =>
      obtain ⟨m, n⟩ := v
      obtain ⟨_, i2, i3⟩ := h.1 a b m n hV
      exact ⟨i2, i3⟩
  rw [hv.1, hv.2]
  constructor
  · intro u w m n hk
    unfold putV at hk
    split at hk
    · rename_i hq
      obtain ⟨rfl, rfl⟩ := hq
      injection hk with hk
      injection hk with hk1 hk2
      exact ⟨hab, by rw [e0 _ _ hab, if_pos ⟨rfl, rfl⟩, hk1], by rw [e1 _ _ hab, if_pos ⟨rfl, rfl⟩, hk2]⟩
    · rename_i hq
      obtain ⟨j1, j2, j3⟩ := h.1 u w m n hk
      exact ⟨j1, by rw [e0 _ _ j1, if_neg hq, j2]; omega, by rw [e1 _ _ j1, if_neg hq, j3]; omega⟩
  · intro u w hl hk
    unfold putV at hk
    split at hk
    · cases hk
    · rename_i hq
      obtain ⟨z1, z2⟩ := h.2 u w hl hk
      exact ⟨by rw [e0 _ _ hl, if_neg hq, z1]; omega, by rw [e1 _ _ hl, if_neg hq, z2]; omega⟩
theorem tab_edge {S0 S1 : List (Pq × Pq)} {E : List Eg} {V : Pq → Pq → Option (Int × Int)} (h : TabV S0 S1 V) (hE : E.Pairwise LtE) (hm : ∀ e, e ∈ E ↔ V e.a e.b = some (e.m, e.n) ∧ ¬ (e.m = 0 ∧ e.n = 0)) : EdgeL S0 S1 E := edge_of hE hm h.1 h.2
/-- How great the numbers can be. -/
theorem cnt_le (S : List (Pq × Pq)) (a b : Pq) : -(S.length : Int) ≤ cntZ S a b ∧ cntZ S a b ≤ S.length := by
  have h1 := List.count_le_length (a := (a, b)) (l := S)
  have h2 := List.count_le_length (a := (b, a)) (l := S)
  unfold cntZ; omega
end Go.Proofs.YtcfghkphkmoikaaGreat

/-
  Layer 17: the edges of two operands' lines (pure: no walk).
-/
namespace Go.Proofs.YtcfghkphkmoikaaGreat
set_option maxRecDepth 100000
set_option linter.unusedVariables false
/-- A line's chain through pixels. -/
def ChL (l : Ln) (H C : List Pq) : Prop := ChainL (decide (l.ax ≤ l.bx)) (decide (l.ay ≤ l.bz)) (fun p => hitB l p.x p.y) H C
theorem hitB_G {l : Ln} {x y : Int} (h : hitB l x y = true) : HitG l.ax l.ay l.bx l.bz x y := by
  unfold hitB at h
  simp only [Bool.and_eq_true] at h
  exact (hit_iff ..).1 h.2
theorem chL_same {l : Ln} {H C D : List Pq} (h : ChL l H C) (k : ChL l H D) : C = D := chain_same h k
/-- The edges of two operands' lines. -/
def EdgesL (A B : List Ln) (E : List Eg) : Prop := ∃ H, HotL (A ++ B) H ∧ ∃ ch : Ln → List Pq, (∀ l ∈ A ++ B, ChL l H (ch l)) ∧ EdgeL (A.flatMap (fun l => stp (ch l))) (B.flatMap (fun l => stp (ch l))) E
theorem flat_congr {α β : Type} {f g : α → List β} : ∀ {L : List α}, (∀ l ∈ L, f l = g l) → L.flatMap f = L.flatMap g
  | [], _ => rfl
  | x :: L, h => by rw [List.flatMap_cons, List.flatMap_cons, h x (by simp), flat_congr (L := L) (fun y hy => h y (List.mem_cons_of_mem _ hy))]
theorem edges_same {A B : List Ln} {E F : List Eg} (h : EdgesL A B E) (k : EdgesL A B F) : E = F := by
  obtain ⟨H, hH, ch, hc, hE⟩ := h
  obtain ⟨K, hK, dh, hd, hF⟩ := k
  obtain rfl := hotL_same hH hK
  have e : ∀ l ∈ A ++ B, stp (ch l) = stp (dh l) := fun l hl => by rw [chL_same (hc l hl) (hd l hl)]
  rw [flat_congr (fun l hl => e l (List.mem_append.2 (.inl hl))), flat_congr (fun l hl => e l (List.mem_append.2 (.inr hl)))] at hE
  exact edge_same hE hF
theorem steps_ne {A : List Ln} {H : List Pq} {ch : Ln → List Pq} (hc : ∀ l ∈ A, ChL l H (ch l)) : ∀ s ∈ A.flatMap (fun l => stp (ch l)), s.1 ≠ s.2 := fun s hs => by
  obtain ⟨l, hl, h⟩ := List.mem_flatMap.1 hs
  exact stp_ne (hc l hl).1 s h
/-- A chain begins and ends with the pixels of its line's ends. -/
theorem chL_ends {l : Ln} {H C : List Pq} (h : ChL l H C) (ga : goodB l.ax l.ay = true) (gb : goodB l.bx l.bz = true) (ha : ⟨pxI l.ax, pxI l.ay⟩ ∈ H) (hb : ⟨pxI l.bx, pxI l.bz⟩ ∈ H) : C.head? = some ⟨pxI l.ax, pxI l.ay⟩ ∧ C.getLast? = some ⟨pxI l.bx, pxI l.bz⟩ := by
  have pg : ∀ x y : Int, goodB x y = true → pixG (pxI x) (pxI y) = true := fun x y h => by
    unfold goodB at h
    unfold pixG pxI
    simp only [decide_eq_true_eq] at h ⊢
    omega
  obtain ⟨e1, e2⟩ := hit_ends l.ax l.ay l.bx l.bz
  have t1 : hitB l (pxI l.ax) (pxI l.ay) = true := by unfold hitB; rw [ga, gb, pg _ _ ga, (hit_iff ..).2 e1]; rfl
  have t2 : hitB l (pxI l.bx) (pxI l.bz) = true := by unfold hitB; rw [ga, gb, pg _ _ gb, (hit_iff ..).2 e2]; rfl
  exact ⟨chain_head h ((h.2 _).2 ⟨ha, t1⟩) (fun r hr => hit_from (hitB_G hr)), chain_last h ((h.2 _).2 ⟨hb, t2⟩) (fun r hr => hit_to (hitB_G hr))⟩
/-- Of closed lines as many edges come to each point as go from it. -/
theorem edges_flow {A : List Ln} {H : List Pq} {ch : Ln → List Pq} (hc : ∀ l ∈ A, ChL l H (ch l)) (hg : ∀ l ∈ A, goodB l.ax l.ay = true ∧ goodB l.bx l.bz = true) (hh : ∀ l ∈ A, (⟨pxI l.ax, pxI l.ay⟩ : Pq) ∈ H ∧ (⟨pxI l.bx, pxI l.bz⟩ : Pq) ∈ H) (hcl : ∀ p : Pq, (A.map (fun l => (⟨l.ax, l.ay⟩ : Pq))).count p = (A.map (fun l => (⟨l.bx, l.bz⟩ : Pq))).count p) (p : Pq) : smL (fun s : Pq × Pq => atP p s.1 - atP p s.2) (A.flatMap (fun l => stp (ch l))) = 0 := by
  rw [flow_sum (a := fun l => ⟨pxI l.ax, pxI l.ay⟩) (b := fun l => ⟨pxI l.bx, pxI l.bz⟩) (fun l hl => (chL_ends (hc l hl) (hg l hl).1 (hg l hl).2 (hh l hl).1 (hh l hl).2).1) (fun l hl => (chL_ends (hc l hl) (hg l hl).1 (hg l hl).2 (hh l hl).1 (hh l hl).2).2)]
  exact sm_closed (A := fun l : Ln => (⟨l.ax, l.ay⟩ : Pq)) (B := fun l : Ln => (⟨l.bx, l.bz⟩ : Pq)) hcl (fun q => atP p ⟨pxI q.x, pxI q.y⟩)
/-- With the operands changed, with all lines gone the other way. -/
theorem edges_swap {A B : List Ln} {E : List Eg} (h : EdgesL A B E) (hh : ∀ H, HotL (A ++ B) H → HotL (B ++ A) H) : EdgesL B A (E.map (fun e => ⟨e.a, e.b, e.n, e.m⟩)) := by
  obtain ⟨H, hH, ch, hc, hE⟩ := h
  exact ⟨H, hh H hH, ch, fun l hl => hc l (List.mem_append.2 (List.mem_append.1 hl).symm), edge_swap hE⟩
theorem edges_rev {A B : List Ln} {E : List Eg} (h : EdgesL A B E) (hh : ∀ H, HotL (A ++ B) H → HotL (A.map rev ++ B.map rev) H) (hr : ∀ (l : Ln) x y, hitB (rev l) x y = hitB l x y) : EdgesL (A.map rev) (B.map rev) (E.map (fun e => ⟨e.a, e.b, -e.m, -e.n⟩)) := by
  obtain ⟨H, hH, ch, hc, hE⟩ := h
  refine ⟨H, hh H hH, fun l => (ch (rev l)).reverse, fun l hl => ?_, ?_⟩
  · rw [← List.map_append, List.mem_map] at hl
    obtain ⟨m, hm, rfl⟩ := hl
    have := chain_rev (f := fun p => hitB m p.x p.y) (fun p hp => hitB_G hp) (hc m hm)
    unfold ChL
    have ef : (fun p : Pq => hitB (rev m) p.x p.y) = fun p => hitB m p.x p.y := by funext p; exact hr m p.x p.y
    rw [ef]
    exact this
  · have fm : ∀ L : List Ln, (L.map rev).flatMap (fun l => stp (ch (rev l)).reverse) = L.flatMap (fun l => stp (ch l).reverse) := fun L => by
      rw [List.flatMap_map]; rfl
    rw [fm, fm]
    exact edge_neg hE (fun a b => cnt_flat fun l _ => cnt_stp_rev _ a b) (fun a b => cnt_flat fun l _ => cnt_stp_rev _ a b)
/-- How many edges there can be, told by the steps. -/
theorem edges_few {A B : List Ln} {E : List Eg} {H : List Pq} {ch : Ln → List Pq} (hc : ∀ l ∈ A ++ B, ChL l H (ch l)) (h : EdgeL (A.flatMap (fun l => stp (ch l))) (B.flatMap (fun l => stp (ch l))) E) : smL (fun e => max e.m (-e.m) + max e.n (-e.n)) E ≤ smL (fun l => ((stp (ch l)).length : Int)) (A ++ B) ∧ (smL (fun e => max e.m (-e.m) + max e.n (-e.n)) E - smL (fun l => ((stp (ch l)).length : Int)) (A ++ B)) % 2 = 0 := by
  have k := edge_sum (W := fun _ _ => 0) (fun _ _ => by omega) (steps_ne (fun l hl => hc l (List.mem_append.2 (.inl hl)))) (steps_ne (fun l hl => hc l (List.mem_append.2 (.inr hl)))) h
  have len : ∀ L : List Ln, ((L.flatMap (fun l => stp (ch l))).length : Int) = smL (fun l => ((stp (ch l)).length : Int)) L := fun L => by
    induction L with
    | nil => rfl
    | cons x L ih => rw [List.flatMap_cons, List.length_append, sm_cons, ← ih]; omega
  have k1 := k.le
  have k2 := k.par
  rw [len, len] at k1 k2
  rw [sm_app]
  exact ⟨k1, by omega⟩
end Go.Proofs.YtcfghkphkmoikaaGreat
