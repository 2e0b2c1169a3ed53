/-
  Layer 17: boxes of groups of eight, and of groups of these: what a search in them finds (pure: no walk).
-/
import Derived.Test.YtcfghkphkmoikaaGreatMqS
import Derived.Test.YtcfghkphkmoikaaGreatMqH
import Derived.Test.YtcfghkphkmoikaaGreatMqM
namespace Go.Proofs.YtcfghkphkmoikaaGreat
set_option maxRecDepth 100000
set_option linter.unusedVariables false
/-- A box of pixels. -/
structure Bx where
  (lx ly mx my : Int)
def uni (b x : Bx) : Bx := ⟨min b.lx x.lx, min b.ly x.ly, max b.mx x.mx, max b.my x.my⟩
def bx0 : Bx := ⟨0, 0, 0, 0⟩
/-- The box of a group. -/
def uniL (L : List Bx) : Bx := L.tail.foldl uni (L.headD bx0)
/-- The box of a pixel. -/
def ptB (p : Pq) : Bx := ⟨p.x, p.y, p.x, p.y⟩
/-- The boxes of groups of eight. -/
def grp (L : List Bx) : List Bx := (List.range ((L.length + 7) / 8)).map fun i => uniL ((L.drop (8 * i)).take 8)
def lvl (P : List Pq) : Nat → List Bx
  | 0 => grp (P.map ptB)
  | k + 1 => grp (lvl P k)
def HasB (b : Bx) (p : Pq) : Prop := b.lx ≤ p.x ∧ p.x ≤ b.mx ∧ b.ly ≤ p.y ∧ p.y ≤ b.my
def SubB (b c : Bx) : Prop := c.lx ≤ b.lx ∧ b.mx ≤ c.mx ∧ c.ly ≤ b.ly ∧ b.my ≤ c.my
theorem SubB.refl (b : Bx) : SubB b b := ⟨Int.le_refl _, Int.le_refl _, Int.le_refl _, Int.le_refl _⟩
theorem SubB.trans {a b c : Bx} (h : SubB a b) (k : SubB b c) : SubB a c := by
  unfold SubB at *; omega
theorem SubB.has {b c : Bx} {p : Pq} (h : SubB b c) (k : HasB b p) : HasB c p := by
  unfold SubB at h; unfold HasB at *; omega
theorem uni_l (b x : Bx) : SubB b (uni b x) := by unfold SubB uni; simp only; omega
theorem uni_r (b x : Bx) : SubB x (uni b x) := by unfold SubB uni; simp only; omega
theorem fold_l : ∀ (L : List Bx) (b : Bx), SubB b (L.foldl uni b)
  | [], b => SubB.refl b
  | x :: L, b => (uni_l b x).trans (fold_l L (uni b x))
theorem fold_r : ∀ (L : List Bx) (b x : Bx), x ∈ L → SubB x (L.foldl uni b)
  | y :: L, b, x, h => by
    rcases List.mem_cons.1 h with rfl | h
    · exact (uni_r b x).trans (fold_l L _)
    · exact fold_r L _ x h
theorem uniL_sub {L : List Bx} {x : Bx} (h : x ∈ L) : SubB x (uniL L) := by
  cases L with
  | nil => cases h
  | cons y L =>
    unfold uniL
    simp only [List.tail_cons, List.headD_cons]
    rcases List.mem_cons.1 h with rfl | h
    · exact fold_l L x
    · exact fold_r L y x h
theorem grp_len (L : List Bx) : (grp L).length = (L.length + 7) / 8 := by simp [grp]
theorem grp_get (L : List Bx) {i : Nat} (h : i < (L.length + 7) / 8) : (grp L)[i]? = some (uniL ((L.drop (8 * i)).take 8)) := by
  unfold grp
  rw [List.getElem?_map, List.getElem?_range h]; rfl
theorem grp_has {L : List Bx} {i j : Nat} {b : Bx} (hj : L[j]? = some b) (h1 : 8 * i ≤ j) (h2 : j < 8 * (i + 1)) : ∃ c, (grp L)[i]? = some c ∧ SubB b c := by
  have hl : j < L.length := (List.getElem?_eq_some_iff.1 hj).1
  refine ⟨_, grp_get L (by omega), uniL_sub ?_⟩
  refine List.mem_of_getElem? (i := j - 8 * i) ?_
  rw [List.getElem?_take, if_pos (by omega), List.getElem?_drop, show 8 * i + (j - 8 * i) = j by omega]
  exact hj
theorem lvl_has {P : List Pq} {j : Nat} {p : Pq} (hj : P[j]? = some p) : ∀ k i, 8 ^ (k + 1) * i ≤ j → j < 8 ^ (k + 1) * (i + 1) → ∃ b, (lvl P k)[i]? = some b ∧ HasB b p
  | 0, i, h1, h2 => by
    obtain ⟨c, e, hs⟩ := grp_has (L := P.map ptB) (b := ptB p) (i := i) (by rw [List.getElem?_map, hj]; rfl) (by omega) (by omega)
    exact ⟨c, e, hs.has ⟨Int.le_refl _, Int.le_refl _, Int.le_refl _, Int.le_refl _⟩⟩
  | k + 1, i, h1, h2 => by
    rw [Nat.pow_succ] at h1 h2
    have hp : 0 < 8 ^ (k + 1) := Nat.pow_pos (by omega)
    have hd := Nat.div_add_mod j (8 ^ (k + 1))
    have hm := Nat.mod_lt j hp
    obtain ⟨b, e, hb⟩ := lvl_has hj k (j / 8 ^ (k + 1)) (by omega) (by rw [Nat.mul_succ]; omega)
    have q1 : 8 * i ≤ j / 8 ^ (k + 1) := by
      rw [Nat.le_div_iff_mul_le hp]
      have : 8 * i * 8 ^ (k + 1) = 8 ^ (k + 1) * 8 * i := by grind
      omega
    have q2 : j / 8 ^ (k + 1) < 8 * (i + 1) := by
      rw [Nat.div_lt_iff_lt_mul hp]
      have : 8 * (i + 1) * 8 ^ (k + 1) = 8 ^ (k + 1) * 8 * (i + 1) := by grind
      omega
    obtain ⟨c, f, hc⟩ := grp_has (L := lvl P k) e q1 q2
    exact ⟨c, f, hc.has hb⟩
/-- How many levels a tree of m things has, until one box is left. -/
def deep : Nat → Nat → Nat
  | 0, _ => 0
  | f + 1, m => if m ≤ 1 then 0 else deep f ((m + 7) / 8) + 1
theorem lvl_len (P : List Pq) : ∀ k, (lvl P k).length = (if k = 0 then (P.length + 7) / 8 else ((lvl P (k - 1)).length + 7) / 8)
  | 0 => by simp [lvl, grp_len]
  | k + 1 => by simp [lvl, grp_len]
theorem lvl_cover (P : List Pq) : ∀ k, P.length ≤ 8 ^ (k + 1) * (lvl P k).length
  | 0 => by
    have := lvl_len P 0
    simp only [if_true] at this
    rw [this]; omega
  | k + 1 => by
    have h := lvl_cover P k
    have e : (lvl P (k + 1)).length = ((lvl P k).length + 7) / 8 := by simp [lvl, grp_len]
    rw [e, Nat.pow_succ, Nat.mul_assoc]
    exact Nat.le_trans h (Nat.mul_le_mul_left _ (by omega))
theorem lvl_pos {P : List Pq} (h : P ≠ []) : ∀ k, 0 < (lvl P k).length
  | 0 => by
    have := List.length_pos_iff.2 h
    rw [lvl_len]; simp only [if_true]; omega
  | k + 1 => by
    have := lvl_pos h k
    rw [show (lvl P (k + 1)).length = ((lvl P k).length + 7) / 8 by simp [lvl, grp_len]]; omega
/-- Boxes of pixels in range. -/
def BxOk (b : Bx) : Prop := -65536 ≤ b.lx ∧ b.lx ≤ b.mx ∧ b.mx ≤ 65536 ∧ -65536 ≤ b.ly ∧ b.ly ≤ b.my ∧ b.my ≤ 65536
theorem uni_ok {b x : Bx} (h : BxOk b) (k : BxOk x) : BxOk (uni b x) := by
  unfold BxOk uni at *; simp only; omega
theorem fold_ok : ∀ (L : List Bx) (b : Bx), BxOk b → (∀ x ∈ L, BxOk x) → BxOk (L.foldl uni b)
  | [], b, h, _ => h
  | x :: L, b, h, k => fold_ok L _ (uni_ok h (k x (by simp))) fun y hy => k y (List.mem_cons_of_mem _ hy)
theorem uniL_ok {L : List Bx} (h : ∀ x ∈ L, BxOk x) : BxOk (uniL L) := by
  cases L with
  | nil => unfold uniL BxOk bx0; simp
  | cons y L => exact fold_ok L y (h y (by simp)) fun x hx => h x (List.mem_cons_of_mem _ hx)
theorem grp_ok {L : List Bx} (h : ∀ x ∈ L, BxOk x) : ∀ x ∈ grp L, BxOk x := by
  intro x hx
  unfold grp at hx
  obtain ⟨i, _, rfl⟩ := List.mem_map.1 hx
  exact uniL_ok fun y hy => h y (List.mem_of_mem_drop (List.mem_of_mem_take hy))
def PixOk (p : Pq) : Prop := -65536 ≤ p.x ∧ p.x ≤ 65536 ∧ -65536 ≤ p.y ∧ p.y ≤ 65536
theorem ptB_ok {p : Pq} (h : PixOk p) : BxOk (ptB p) := by
  unfold PixOk at h; unfold BxOk ptB; simp only; omega
theorem lvl_ok {P : List Pq} (h : ∀ p ∈ P, PixOk p) : ∀ k, ∀ b ∈ lvl P k, BxOk b
  | 0 => grp_ok fun b hb => by
    obtain ⟨p, hp, rfl⟩ := List.mem_map.1 hb
    exact ptB_ok (h p hp)
  | k + 1 => grp_ok (lvl_ok h k)
def tch (l : Ln) (b : Bx) : Bool := tchB l.ax l.ay l.bx l.bz b.lx b.ly b.mx b.my
theorem tch_has {l : Ln} {b : Bx} {p : Pq} (h : HitG l.ax l.ay l.bx l.bz p.x p.y) (k : HasB b p) : tch l b = true := tch_hit h k.1 k.2.1 k.2.2.1 k.2.2.2
/-- What the search from the top finds: n levels, of which the last has one box. -/
def found (l : Ln) (P : List Pq) (n : Nat) : List Pq := srch (fun p => tch l (ptB p)) (tch l) P (lvl P) n 0
theorem found_sub (l : Ln) (P : List Pq) {n : Nat} (hn : P.length ≤ 8 ^ n) : (found l P n).Sublist P := by
  have := srch_sub (fun p => tch l (ptB p)) (tch l) P (lvl P) n 0
  rw [Nat.mul_zero, List.drop_zero, List.take_of_length_le hn] at this
  exact this
theorem found_mem {l : Ln} {P : List Pq} {n : Nat} (hn : P.length ≤ 8 ^ n) {p : Pq} (hp : p ∈ P) (h : HitG l.ax l.ay l.bx l.bz p.x p.y) : p ∈ found l P n := by
  obtain ⟨j, hj⟩ := List.mem_iff_getElem?.1 hp
  have hl : j < P.length := (List.getElem?_eq_some_iff.1 hj).1
  have h0 : (fun p => tch l (ptB p)) p = true := tch_has (b := ptB p) h ⟨Int.le_refl _, Int.le_refl _, Int.le_refl _, Int.le_refl _⟩
  refine srch_mem (α := Pq) (p := p) (T0 := fun p => tch l (ptB p)) (T := tch l) (LV := lvl P) (n := n) h0 (fun k i j' _ hj' h1 h2 => ?_) n 0 j (Nat.le_refl _) hj (by omega) (by omega)
  obtain ⟨b, e, hb⟩ := lvl_has hj' k i h1 h2
  exact ⟨b, e, tch_has h hb⟩
/-- The hits of what is found are the hits of all. -/
theorem found_hits {l : Ln} {P : List Pq} {n : Nat} (hn : P.length ≤ 8 ^ n) (hd : P.Nodup) {f : Pq → Bool} (hf : ∀ p, f p = true → HitG l.ax l.ay l.bx l.bz p.x p.y) : (found l P n).filter f = P.filter f :=
  sub_filter (found_sub l P hn) hd fun p hp e => found_mem hn hp (hf p e)
end Go.Proofs.YtcfghkphkmoikaaGreat
