/-
  Texts of this seat, put together: each with its own head.
-/
import Derived.Test.YteckkcpnfeoehaaDoorMnAd
import Derived.Test.YteckkcpnfeoehaaDoorMnAc
import Derived.Test.YteckkcpnfeoehaaDoorMnAb

/-
  Layer 8: what a composite glyph's bytes are, as lists of numbers; what any bytes read as; and that what is written is read. No walk.
-/
namespace Go.Proofs.YteckkcpnfeoehaaDoor
open Go.RowKit
set_option linter.unusedVariables false

def putL (x : Int) (m : Nat) : List Int := (List.range m).map (byteOf x m)
theorem putL_len (x : Int) (m : Nat) : (putL x m).length = m := by simp [putL]
/-- Bytes from a place on are those of a list. -/
def AtL (f : Nat → Int) (p : Nat) (L : List Int) : Prop := ∀ j, j < L.length → f (p + j) = L.getD j 0
theorem AtL.left {f : Nat → Int} {p : Nat} {A B : List Int} (h : AtL f p (A ++ B)) : AtL f p A := fun j hj => by
  rw [h j (by simp; omega), List.getD_eq_getElem?_getD, List.getElem?_append_left hj, List.getD_eq_getElem?_getD]
theorem AtL.right {f : Nat → Int} {p : Nat} {A B : List Int} (h : AtL f p (A ++ B)) : AtL f (p + A.length) B := fun j hj => by
  rw [Nat.add_assoc, h (A.length + j) (by simp; omega), List.getD_eq_getElem?_getD, List.getElem?_append_right (by omega), Nat.add_sub_cancel_left, List.getD_eq_getElem?_getD]
theorem AtL.app {f : Nat → Int} {p q : Nat} {A B : List Int} (h : AtL f p (A ++ B)) (hq : q = p + A.length) : AtL f p A ∧ AtL f q B := by subst hq; exact ⟨h.left, h.right⟩
theorem atL_put2 {f : Nat → Int} {p : Nat} {x : Int} (h : AtL f p (putL x 2)) : numAt f p 2 = x % 65536 := by
  have h0 := h 0 (by simp [putL])
  have h1 := h 1 (by simp [putL])
  simp only [putL, List.getD_eq_getElem?_getD, List.getElem?_map, Nat.add_zero] at h0 h1
  simp at h0 h1
  simp only [numAt, Nat.add_zero, h0, h1, byteOf, Nat.reduceSub, Nat.reduceMul, Int.reducePow]
  omega
theorem atL_put1 {f : Nat → Int} {p : Nat} {x : Int} (h : AtL f p (putL x 1)) : numAt f p 1 = x % 256 := by
  have h0 := h 0 (by simp [putL])
  simp only [putL, List.getD_eq_getElem?_getD, List.getElem?_map, Nat.add_zero] at h0
  simp at h0
  simp only [numAt, Nat.add_zero, h0, byteOf, Nat.reduceSub, Nat.reduceMul, Int.reducePow]
  omega
def Sh (v : Int) : Prop := -32768 ≤ v ∧ v ≤ 32767
instance (v : Int) : Decidable (Sh v) := by unfold Sh; infer_instance
theorem atL_s2 {f : Nat → Int} {p : Nat} {x : Int} (h : AtL f p (putL x 2)) (hx : Sh x) : sgn 2 (numAt f p 2) = x := by
  rw [atL_put2 h]; exact sgn_mod hx
theorem atL_s1 {f : Nat → Int} {p : Nat} {x : Int} (h : AtL f p (putL x 1)) (hx : -128 ≤ x ∧ x ≤ 127) : sgn 1 (numAt f p 1) = x := by
  rw [atL_put1 h]; unfold sgn; simp only [Int.reducePow]; split <;> omega

/-- A part: a glyph's number, where it is moved to, and its four numbers. -/
structure Pt8 where
  (g x y m0 m1 m2 m3 : Int)
deriving DecidableEq
def P8Ok (p : Pt8) : Prop := (0 ≤ p.g ∧ p.g ≤ 65535) ∧ Sh p.x ∧ Sh p.y ∧ Sh p.m0 ∧ Sh p.m1 ∧ Sh p.m2 ∧ Sh p.m3
instance (p : Pt8) : Decidable (P8Ok p) := by unfold P8Ok; infer_instance
def turnF (p : Pt8) : Int := if p.m1 ≠ 0 ∨ p.m2 ≠ 0 then 128 else if p.m0 ≠ p.m3 then 64 else if p.m0 ≠ 16384 then 8 else 0
def turnN (p : Pt8) : List Int := if p.m1 ≠ 0 ∨ p.m2 ≠ 0 then [p.m0, p.m1, p.m2, p.m3] else if p.m0 ≠ p.m3 then [p.m0, p.m3] else if p.m0 ≠ 16384 then [p.m0] else []
def Wide8 (p : Pt8) : Prop := p.x < -128 ∨ 127 < p.x ∨ p.y < -128 ∨ 127 < p.y
instance (p : Pt8) : Decidable (Wide8 p) := by unfold Wide8; infer_instance
def wid8 (p : Pt8) : Nat := if Wide8 p then 2 else 1
def flag8 (p : Pt8) (t : Int) : Int := turnF p + 2 + (if Wide8 p then 1 else 0) + t
def nums8 (l : List Int) : List Int := l.flatMap (fun x => putL x 2)
def part8 (p : Pt8) (t : Int) : List Int := putL (flag8 p t) 2 ++ (putL p.g 2 ++ (putL p.x (wid8 p) ++ (putL p.y (wid8 p) ++ nums8 (turnN p))))
def tail8 (r : List Pt8) (hc : Bool) : Int := if r = [] then (if hc then 256 else 0) else 32
def parts8 (hc : Bool) : List Pt8 → List Int
  | [] => []
  | p :: r => part8 p (tail8 r hc) ++ parts8 hc r
def code8 (c : List Int) : List Int := if c = [] then [] else putL c.length 2 ++ c
def wrB8 (L : List Pt8) (c box : List Int) : List Int := putL (-1) 2 ++ (nums8 box ++ (parts8 (!c.isEmpty) L ++ code8 c))
def wrE8 (L : List Pt8) (c box : List Int) : Int := if L = [] then 4 else if 64 < L.length ∨ 65535 < c.length then 7 else if (∀ v ∈ box, Sh v) ∧ ∀ p ∈ L, P8Ok p then 0 else 6

def Has8 (fl b : Int) : Prop := fl / b % 2 = 1
instance (fl b : Int) : Decidable (Has8 fl b) := by unfold Has8; infer_instance
def wd8 (fl : Int) : Nat := if Has8 fl 1 then 2 else 1
def nm8 (fl : Int) : Nat := if Has8 fl 8 then 1 else if Has8 fl 64 then 2 else if Has8 fl 128 then 4 else 0
def sz8 (fl : Int) : Nat := 4 + 2 * wd8 fl + 2 * nm8 fl
def s2 (f : Nat → Int) (p : Nat) : Int := sgn 2 (numAt f p 2)
def fl8 (f : Nat → Int) (p : Nat) : Int := numAt f p 2
def pt8 (f : Nat → Int) (p : Nat) : Pt8 :=
  let w := wd8 (fl8 f p); let q := p + 4 + 2 * w; let k := nm8 (fl8 f p)
  ⟨numAt f (p + 2) 2, sgn w (numAt f (p + 4) w), sgn w (numAt f (p + 4 + w) w), if k = 0 then 16384 else s2 f q, if k = 4 then s2 f (q + 2) else 0, if k = 4 then s2 f (q + 4) else 0,
    if k = 0 then 16384 else if k = 1 then s2 f q else if k = 2 then s2 f (q + 2) else s2 f (q + 6)⟩
def pe8 (f : Nat → Int) (n p : Nat) : Int := if n < p + 4 then 3 else if ¬ Has8 (fl8 f p) 2 then 9 else if n < p + sz8 (fl8 f p) then 3 else 0
structure Rd8 where
  (e : Int) (L : List Pt8) (p : Nat) (fl : Int)
def rdGo (f : Nat → Int) (n : Nat) : Nat → Nat → Rd8
  | 0, p => if pe8 f n p ≠ 0 then ⟨pe8 f n p, [], 0, 0⟩ else if Has8 (fl8 f p) 32 then ⟨7, [], 0, 0⟩ else ⟨0, [pt8 f p], p + sz8 (fl8 f p), fl8 f p⟩
  | k + 1, p => if pe8 f n p ≠ 0 then ⟨pe8 f n p, [], 0, 0⟩ else if Has8 (fl8 f p) 32 then
      (if (rdGo f n k (p + sz8 (fl8 f p))).e ≠ 0 then ⟨(rdGo f n k (p + sz8 (fl8 f p))).e, [], 0, 0⟩ else ⟨0, pt8 f p :: (rdGo f n k (p + sz8 (fl8 f p))).L, (rdGo f n k (p + sz8 (fl8 f p))).p, (rdGo f n k (p + sz8 (fl8 f p))).fl⟩)
      else ⟨0, [pt8 f p], p + sz8 (fl8 f p), fl8 f p⟩
structure An8 where
  (e : Int) (L : List Pt8) (s m : Nat)
/-- What is answered where the parts are read. -/
def fin8 (f : Nat → Int) (n : Nat) (r : Rd8) : An8 :=
  if r.e ≠ 0 then ⟨r.e, [], 0, 0⟩ else if ¬ Has8 r.fl 256 then ⟨0, r.L, 0, 0⟩ else if n < r.p + 2 then ⟨3, [], 0, 0⟩ else if (n : Int) < r.p + 2 + fl8 f r.p then ⟨3, [], 0, 0⟩ else ⟨0, r.L, r.p + 2, (fl8 f r.p).toNat⟩
def rdAns8 (f : Nat → Int) (n : Nat) : An8 := if n < 10 then ⟨3, [], 0, 0⟩ else if 0 ≤ s2 f 0 then ⟨11, [], 0, 0⟩ else fin8 f n (rdGo f n 63 10)

/-- A part that was written is read. -/
theorem turn_cases (p : Pt8) : (turnF p = 128 ∧ turnN p = [p.m0, p.m1, p.m2, p.m3]) ∨ (turnF p = 64 ∧ turnN p = [p.m0, p.m3] ∧ p.m1 = 0 ∧ p.m2 = 0) ∨ (turnF p = 8 ∧ turnN p = [p.m0] ∧ p.m1 = 0 ∧ p.m2 = 0 ∧ p.m3 = p.m0) ∨ (turnF p = 0 ∧ turnN p = [] ∧ p.m0 = 16384 ∧ p.m1 = 0 ∧ p.m2 = 0 ∧ p.m3 = 16384) := by
  unfold turnF turnN
  by_cases h : p.m1 ≠ 0 ∨ p.m2 ≠ 0
  · rw [if_pos h, if_pos h]; exact .inl ⟨rfl, rfl⟩
  · rw [if_neg h, if_neg h]
    by_cases h2 : p.m0 ≠ p.m3
    · rw [if_pos h2, if_pos h2]; exact .inr (.inl ⟨rfl, rfl, by omega, by omega⟩)
    · rw [if_neg h2, if_neg h2]
      by_cases h3 : p.m0 ≠ 16384
      · rw [if_pos h3, if_pos h3]; exact .inr (.inr (.inl ⟨rfl, rfl, by omega, by omega, by omega⟩))
      · rw [if_neg h3, if_neg h3]; exact .inr (.inr (.inr ⟨rfl, rfl, by omega, by omega, by omega, by omega⟩))
theorem flag_bits (p : Pt8) (t : Int) (ht : t = 0 ∨ t = 32 ∨ t = 256) : (0 ≤ flag8 p t ∧ flag8 p t < 65536) ∧ Has8 (flag8 p t) 2 ∧ (Has8 (flag8 p t) 32 ↔ t = 32) ∧ (Has8 (flag8 p t) 256 ↔ t = 256) ∧ wd8 (flag8 p t) = wid8 p ∧ nm8 (flag8 p t) = (turnN p).length := by
  unfold wd8 nm8 Has8 flag8 wid8
  rcases turn_cases p with ⟨h1, h2⟩ | ⟨h1, h2, _⟩ | ⟨h1, h2, _⟩ | ⟨h1, h2, _⟩ <;> rw [h1, h2] <;> by_cases hw : Wide8 p <;> simp only [hw, if_true, if_false] <;> rcases ht with rfl | rfl | rfl <;> (simp only [List.length_cons, List.length_nil]; decide)
theorem nums8_len (l : List Int) : (nums8 l).length = 2 * l.length := by
  induction l with
  | nil => rfl
  | cons a l ih => simp only [nums8, List.flatMap_cons, List.length_append, List.length_cons, putL_len] at ih ⊢; omega
theorem part8_len (p : Pt8) (t : Int) : (part8 p t).length = 4 + 2 * wid8 p + 2 * (turnN p).length := by
  unfold part8; simp only [List.length_append, putL_len, nums8_len]; omega
theorem fl_read {f : Nat → Int} {q : Nat} {p : Pt8} {t : Int} (ht : t = 0 ∨ t = 32 ∨ t = 256) (h : AtL f q (part8 p t)) : fl8 f q = flag8 p t := by
  have h0 := atL_put2 h.left
  have hb := (flag_bits p t ht).1
  unfold fl8; rw [h0]; omega
theorem sz_read {p : Pt8} {t : Int} (ht : t = 0 ∨ t = 32 ∨ t = 256) : sz8 (flag8 p t) = (part8 p t).length := by
  obtain ⟨_, _, _, _, h5, h6⟩ := flag_bits p t ht
  rw [part8_len]; unfold sz8; rw [h5, h6]
theorem pt_read {f : Nat → Int} {q : Nat} {p : Pt8} {t : Int} (ht : t = 0 ∨ t = 32 ∨ t = 256) (hp : P8Ok p) (h : AtL f q (part8 p t)) : pt8 f q = p := by
  have hfl := fl_read ht h
  obtain ⟨hg, hx, hy, k0, k1, k2, k3⟩ := hp
  obtain ⟨_, _, _, _, h5, h6⟩ := flag_bits p t ht
  unfold part8 at h
  have g := h.right.left
  have gx := h.right.right.left
  have gy := h.right.right.right.left
  have gm := h.right.right.right.right
  simp only [putL_len] at g gx gy gm
  rw [show q + 2 + 2 = q + 4 by omega] at gx gy gm
  have eg : numAt f (q + 2) 2 = p.g := by rw [atL_put2 g]; omega
  have ex : sgn (wid8 p) (numAt f (q + 4) (wid8 p)) = p.x := by
    unfold wid8 at gx ⊢
    by_cases hw : Wide8 p
    · simp only [hw, if_true] at gx ⊢; exact atL_s2 gx hx
    · simp only [hw, if_false] at gx ⊢; unfold Wide8 at hw; exact atL_s1 gx (by omega)
  have ey : sgn (wid8 p) (numAt f (q + 4 + wid8 p) (wid8 p)) = p.y := by
    unfold wid8 at gy ⊢
    by_cases hw : Wide8 p
    · simp only [hw, if_true] at gy ⊢; exact atL_s2 gy hy
    · simp only [hw, if_false] at gy ⊢; unfold Wide8 at hw; exact atL_s1 gy (by omega)
  rw [show q + 4 + wid8 p + wid8 p = q + 4 + 2 * wid8 p by omega] at gm
  unfold pt8
  rw [hfl, h5, h6]
  dsimp only
  rw [eg, ex, ey]
  obtain ⟨pg, px, py, a0, a1, a2, a3⟩ := p
  simp only at *
  rcases turn_cases ⟨pg, px, py, a0, a1, a2, a3⟩ with ⟨_, h2⟩ | ⟨_, h2, e1, e2⟩ | ⟨_, h2, e1, e2, e3⟩ | ⟨_, h2, e0, e1, e2, e3⟩ <;> rw [h2] at gm ⊢
  · have m0 := atL_s2 (x := a0) gm.left k0
    have m1 := atL_s2 (x := a1) gm.right.left k1
    have m2 := atL_s2 (x := a2) gm.right.right.left k2
    have m3 := atL_s2 (x := a3) gm.right.right.right.left k3
    simp only [putL_len, Nat.add_assoc, Nat.reduceAdd] at m0 m1 m2 m3
    simp [s2, Nat.add_assoc, m0, m1, m2, m3]
  · simp only at e1 e2
    subst e1 e2
    have m0 := atL_s2 (x := a0) gm.left k0
    have m3 := atL_s2 (x := a3) gm.right.left k3
    simp only [putL_len, Nat.add_assoc] at m0 m3
    simp [s2, Nat.add_assoc, m0, m3]
  · simp only at e1 e2 e3
    subst e1 e2 e3
    have m0 := atL_s2 (x := a3) gm.left k0
    simp only [Nat.add_assoc] at m0
    simp [s2, Nat.add_assoc, m0]
  · simp only at e0 e1 e2 e3
    simp [e0, e1, e2, e3]
theorem pe_read {f : Nat → Int} {n q : Nat} {p : Pt8} {t : Int} (ht : t = 0 ∨ t = 32 ∨ t = 256) (h : AtL f q (part8 p t)) : pe8 f n q = if n < q + (part8 p t).length then 3 else 0 := by
  have hfl := fl_read ht h
  have hb := (flag_bits p t ht).2.1
  unfold pe8
  rw [hfl, sz_read ht]
  have hl : 4 ≤ (part8 p t).length := by rw [part8_len]; omega
  by_cases h1 : n < q + 4
  · rw [if_pos h1, if_pos (by omega)]
  · rw [if_neg h1, if_neg (by simp [hb])]
theorem tail8_or (r : List Pt8) (hc : Bool) : tail8 r hc = 0 ∨ tail8 r hc = 32 ∨ tail8 r hc = 256 := by
  unfold tail8; cases r <;> cases hc <;> simp
/-- Parts that were written are read; where bytes lack, ErrShort. -/
theorem go_read (f : Nat → Int) (n : Nat) (hc : Bool) : ∀ (L : List Pt8) (k q : Nat), L ≠ [] → L.length ≤ k + 1 → (∀ p ∈ L, P8Ok p) → AtL f q (parts8 hc L) →
    (q + (parts8 hc L).length ≤ n → (rdGo f n k q).e = 0 ∧ (rdGo f n k q).L = L ∧ (rdGo f n k q).p = q + (parts8 hc L).length ∧ (Has8 (rdGo f n k q).fl 256 ↔ hc = true)) ∧ (n < q + (parts8 hc L).length → (rdGo f n k q).e = 3)
  | [], k, q, h0, _, _, _ => absurd rfl h0
  | p :: r, k, q, _, hk, hok, hat => by
    have ht := tail8_or r hc
    unfold parts8 at hat ⊢
    have hp : P8Ok p := hok p (by simp)
    have hfl := fl_read ht hat.left
    have hpt := pt_read ht hp hat.left
    have hpe := pe_read (n := n) ht hat.left
    have hsz := sz_read (p := p) ht
    obtain ⟨_, _, b32, b256, _⟩ := flag_bits p (tail8 r hc) ht
    rw [List.length_append]
    have hlen : q + sz8 (fl8 f q) = q + (part8 p (tail8 r hc)).length := by rw [hfl, hsz]
    cases r with
    | nil =>
      have e32 : ¬ Has8 (fl8 f q) 32 := by rw [hfl, b32]; unfold tail8; cases hc <;> simp
      have e256 : Has8 (fl8 f q) 256 ↔ hc = true := by rw [hfl, b256]; unfold tail8; cases hc <;> simp
      have e0 : (parts8 hc []).length = 0 := rfl
      rw [e0, Nat.add_zero]
      refine ⟨fun hn => ?_, fun hn => ?_⟩
      · have e1 : pe8 f n q = 0 := by rw [hpe, if_neg (by omega)]
        cases k <;> (unfold rdGo; rw [if_neg (by simp [e1]), if_neg e32]; exact ⟨rfl, by rw [hpt], hlen, e256⟩)
      · have e1 : pe8 f n q = 3 := by rw [hpe, if_pos (by omega)]
        cases k <;> (unfold rdGo; rw [if_pos (by simp [e1])]; exact e1)
    | cons p2 r2 =>
      have e32 : Has8 (fl8 f q) 32 := by rw [hfl, b32]; unfold tail8; simp
      have hk' : 1 ≤ k := by simp at hk; omega
      obtain ⟨k', rfl⟩ : ∃ k', k = k' + 1 := ⟨k - 1, by omega⟩
      have ih := go_read f n hc (p2 :: r2) k' (q + (part8 p (tail8 (p2 :: r2) hc)).length) (by simp) (by simp at hk ⊢; omega) (fun x hx => hok x (by simp [hx])) hat.right
      rw [Nat.add_assoc] at ih
      refine ⟨fun hn => ?_, fun hn => ?_⟩
      · have e1 : pe8 f n q = 0 := by rw [hpe, if_neg (by omega)]
        obtain ⟨i1, i2, i3, i4⟩ := ih.1 hn
        unfold rdGo
        rw [if_neg (by simp [e1]), if_pos e32, hlen, if_neg (by simp [i1])]
        exact ⟨rfl, by rw [hpt, i2], i3, i4⟩
      · by_cases h1 : n < q + (part8 p (tail8 (p2 :: r2) hc)).length
        · have e1 : pe8 f n q = 3 := by rw [hpe, if_pos (by omega)]
          unfold rdGo
          rw [if_pos (by simp [e1])]
          exact e1
        · have e1 : pe8 f n q = 0 := by rw [hpe, if_neg (by omega)]
          have i1 := ih.2 hn
          unfold rdGo
          rw [if_neg (by simp [e1]), if_pos e32, hlen, if_pos (by simp [i1])]
          exact i1
/-- What is written is read, whatever stands behind; and what lacks bytes is ErrShort. -/
theorem back8 (f : Nat → Int) (n : Nat) (L : List Pt8) (c box : List Int) (hb : box.length = 4) (h0 : wrE8 L c box = 0) (hat : AtL f 0 (wrB8 L c box)) :
    ((wrB8 L c box).length ≤ n → (rdAns8 f n).e = 0 ∧ (rdAns8 f n).L = L ∧ (rdAns8 f n).m = c.length ∧ ∀ j, j < c.length → f ((rdAns8 f n).s + j) = c.getD j 0) ∧ (n < (wrB8 L c box).length → rdAns8 f n = ⟨3, [], 0, 0⟩) := by
  unfold wrE8 at h0
  have hL : L ≠ [] := fun e => by rw [if_pos e] at h0; omega
  rw [if_neg hL] at h0
  have hlen : ¬ (64 < L.length ∨ 65535 < c.length) := fun e => by rw [if_pos e] at h0; omega
  rw [if_neg hlen] at h0
  have hok : (∀ v ∈ box, Sh v) ∧ ∀ p ∈ L, P8Ok p := Decidable.byContradiction fun e => by rw [if_neg e] at h0; omega
  unfold wrB8 at hat ⊢
  have a0 := hat.left
  have ap := hat.right.right.left
  have ac := hat.right.right.right
  simp only [putL_len, nums8_len, hb, Nat.zero_add, Nat.reduceMul, Nat.reduceAdd] at ap ac
  simp only [List.length_append, putL_len, nums8_len, hb]
  have hneg : ¬ 0 ≤ s2 f 0 := by
    unfold s2; rw [atL_s2 a0 (by unfold Sh; omega)]; omega
  have hgo := go_read f n (!c.isEmpty) L 63 10 hL (by omega) hok.2 ap
  unfold rdAns8
  refine ⟨fun hn => ?_, fun hn => ?_⟩
  · rw [if_neg (by omega), if_neg hneg]
    obtain ⟨r1, r2, r3, r4⟩ := hgo.1 (by omega)
    unfold fin8
    rw [if_neg (by simp [r1])]
    by_cases hc : c = []
    · subst hc
      rw [if_pos (by rw [r4]; simp)]
      exact ⟨rfl, r2, rfl, fun j hj => absurd hj (by simp)⟩
    · rw [if_neg (by rw [r4]; simp [hc]), r3]
      unfold code8 at ac hn
      rw [if_neg hc] at ac hn
      rw [List.length_append, putL_len] at hn
      have e2 : fl8 f (10 + (parts8 (!c.isEmpty) L).length) = c.length := by
        unfold fl8; rw [atL_put2 ac.left]; omega
      rw [if_neg (by omega), e2, if_neg (by omega)]
      have ac2 := ac.right
      rw [putL_len] at ac2
      exact ⟨rfl, r2, by simp, ac2⟩
  · by_cases h10 : n < 10
    · rw [if_pos h10]
    · rw [if_neg h10, if_neg hneg]
      unfold fin8
      by_cases hp : n < 10 + (parts8 (!c.isEmpty) L).length
      · have r1 := hgo.2 hp
        rw [if_pos (by simp [r1]), r1]
      · obtain ⟨r1, r2, r3, r4⟩ := hgo.1 (by omega)
        rw [if_neg (by simp [r1])]
        have hc : c ≠ [] := fun e => by
          have e0 : (code8 c).length = 0 := by rw [e]; rfl
          omega
        rw [if_neg (by rw [r4]; simp [hc]), r3]
        unfold code8 at ac hn
        rw [if_neg hc] at ac hn
        rw [List.length_append, putL_len] at hn
        by_cases h2 : n < 10 + (parts8 (!c.isEmpty) L).length + 2
        · rw [if_pos h2]
        · have e2 : fl8 f (10 + (parts8 (!c.isEmpty) L).length) = c.length := by
            unfold fl8; rw [atL_put2 ac.left]; omega
          rw [if_neg h2, e2, if_pos (by omega)]

/-- Whatever is read may be written. -/
theorem s2_sh {f : Nat → Int} {n p : Nat} (hf : ∀ j, j < n → 0 ≤ f j ∧ f j ≤ 255) (h : p + 2 ≤ n) : Sh (s2 f p) := by
  have hr := numAt_range (f := f) (p := p) (k := 2) (fun j hj => hf j (by omega))
  unfold Sh s2 sgn; simp only [Int.reducePow] at hr ⊢; split <;> omega
theorem s1_sh {f : Nat → Int} {n p : Nat} (hf : ∀ j, j < n → 0 ≤ f j ∧ f j ≤ 255) (h : p + 1 ≤ n) : Sh (sgn 1 (numAt f p 1)) := by
  have hr := numAt_range (f := f) (p := p) (k := 1) (fun j hj => hf j (by omega))
  unfold Sh sgn; simp only [Int.reducePow] at hr ⊢; split <;> omega
theorem pt8_ok {f : Nat → Int} {n p : Nat} (hf : ∀ j, j < n → 0 ≤ f j ∧ f j ≤ 255) (h : pe8 f n p = 0) : P8Ok (pt8 f p) := by
  unfold pe8 at h
  have h1 : ¬ n < p + 4 := fun e => by rw [if_pos e] at h; omega
  rw [if_neg h1] at h
  have h2 : Has8 (fl8 f p) 2 := Decidable.byContradiction fun e => by rw [if_pos e] at h; omega
  rw [if_neg (by simp [h2])] at h
  have h3 : ¬ n < p + sz8 (fl8 f p) := fun e => by rw [if_pos e] at h; omega
  have hr := numAt_range (f := f) (p := p + 2) (k := 2) (fun j hj => hf j (by omega))
  simp only [Int.reducePow] at hr
  unfold sz8 at h3
  have hw : wd8 (fl8 f p) = 1 ∨ wd8 (fl8 f p) = 2 := by unfold wd8; split <;> omega
  have hk : nm8 (fl8 f p) = 0 ∨ nm8 (fl8 f p) = 1 ∨ nm8 (fl8 f p) = 2 ∨ nm8 (fl8 f p) = 4 := by unfold nm8; split <;> (try split) <;> (try split) <;> omega
  have z : Sh 0 := by unfold Sh; omega
  have u : Sh 16384 := by unfold Sh; omega
  unfold P8Ok pt8
  generalize wd8 (fl8 f p) = w at *
  generalize nm8 (fl8 f p) = k at *
  refine ⟨by simp only; omega, ?_, ?_, ?_⟩
  · rcases hw with rfl | rfl
    · exact s1_sh hf (by omega)
    · exact s2_sh hf (by omega)
  · rcases hw with rfl | rfl
    · exact s1_sh hf (by omega)
    · exact s2_sh hf (by omega)
  · rcases hk with rfl | rfl | rfl | rfl <;> simp only [Nat.reduceEqDiff, if_true, if_false, Nat.one_ne_zero, Nat.zero_ne_one]
    · exact ⟨u, z, z, u⟩
    · exact ⟨s2_sh hf (by omega), z, z, s2_sh hf (by omega)⟩
    · exact ⟨s2_sh hf (by omega), z, z, s2_sh hf (by omega)⟩
    · exact ⟨s2_sh hf (by omega), s2_sh hf (by omega), s2_sh hf (by omega), s2_sh hf (by omega)⟩
theorem go_ok {f : Nat → Int} {n : Nat} (hf : ∀ j, j < n → 0 ≤ f j ∧ f j ≤ 255) : ∀ (k p : Nat), (rdGo f n k p).e = 0 → (rdGo f n k p).L ≠ [] ∧ (rdGo f n k p).L.length ≤ k + 1 ∧ ∀ x ∈ (rdGo f n k p).L, P8Ok x
  | 0, p, h => by
    unfold rdGo at h ⊢
    by_cases h1 : pe8 f n p ≠ 0
    · rw [if_pos h1] at h; exact absurd h h1
    · rw [if_neg h1] at h ⊢
      by_cases h2 : Has8 (fl8 f p) 32
      · rw [if_pos h2] at h; simp at h
      · rw [if_neg h2]
        refine ⟨by simp, by simp, fun x hx => ?_⟩
        simp only [List.mem_cons, List.not_mem_nil, or_false] at hx
        subst hx
        exact pt8_ok hf (by omega)
  | k + 1, p, h => by
    have ih := go_ok hf k (p + sz8 (fl8 f p))
    unfold rdGo at h ⊢
    by_cases h1 : pe8 f n p ≠ 0
    · rw [if_pos h1] at h; exact absurd h h1
    · rw [if_neg h1] at h ⊢
      have hp := pt8_ok hf (show pe8 f n p = 0 by omega)
      by_cases h2 : Has8 (fl8 f p) 32
      · rw [if_pos h2] at h ⊢
        by_cases h3 : (rdGo f n k (p + sz8 (fl8 f p))).e ≠ 0
        · rw [if_pos h3] at h; exact absurd h h3
        · rw [if_neg h3] at h ⊢
          obtain ⟨i1, i2, i3⟩ := ih (by omega)
          refine ⟨by simp, by simp only [List.length_cons]; omega, fun x hx => ?_⟩
          simp only [List.mem_cons] at hx
          rcases hx with rfl | hx
          · exact hp
          · exact i3 x hx
      · rw [if_neg h2]
        refine ⟨by simp, by simp, fun x hx => ?_⟩
        simp only [List.mem_cons, List.not_mem_nil, or_false] at hx
        subst hx
        exact hp
theorem ans_ok {f : Nat → Int} {n : Nat} (hf : ∀ j, j < n → 0 ≤ f j ∧ f j ≤ 255) (h : (rdAns8 f n).e = 0) : (rdAns8 f n).L ≠ [] ∧ (rdAns8 f n).L.length ≤ 64 ∧ (∀ x ∈ (rdAns8 f n).L, P8Ok x) ∧ (rdAns8 f n).m ≤ 65535 ∧ (rdAns8 f n).s + (rdAns8 f n).m ≤ n := by
  unfold rdAns8 at h ⊢
  by_cases h1 : n < 10
  · rw [if_pos h1] at h; simp at h
  · rw [if_neg h1] at h ⊢
    by_cases h2 : 0 ≤ s2 f 0
    · rw [if_pos h2] at h; simp at h
    · rw [if_neg h2] at h ⊢
      have hg := go_ok hf 63 10
      generalize rdGo f n 63 10 = r at *
      unfold fin8 at h ⊢
      by_cases h3 : r.e ≠ 0
      · rw [if_pos h3] at h; exact absurd h h3
      · rw [if_neg h3] at h ⊢
        obtain ⟨g1, g2, g3⟩ := hg (by omega)
        by_cases h4 : ¬ Has8 r.fl 256
        · rw [if_pos h4]; exact ⟨g1, g2, g3, by simp, by simp⟩
        · rw [if_neg h4] at h ⊢
          by_cases h5 : n < r.p + 2
          · rw [if_pos h5] at h; simp at h
          · rw [if_neg h5] at h ⊢
            have hr := numAt_range (f := f) (p := r.p) (k := 2) (fun j hj => hf j (by omega))
            simp only [Int.reducePow] at hr
            by_cases h6 : (n : Int) < r.p + 2 + fl8 f r.p
            · rw [if_pos h6] at h; simp at h
            · rw [if_neg h6]
              unfold fl8 at *
              exact ⟨g1, g2, g3, by simp only; omega, by simp only; omega⟩
theorem ans_no {f : Nat → Int} {n : Nat} (h : (rdAns8 f n).e ≠ 0) : (rdAns8 f n).L = [] ∧ (rdAns8 f n).m = 0 := by
  unfold rdAns8 at h ⊢
  by_cases h1 : n < 10
  · rw [if_pos h1]; exact ⟨rfl, rfl⟩
  · rw [if_neg h1] at h ⊢
    by_cases h2 : 0 ≤ s2 f 0
    · rw [if_pos h2]; exact ⟨rfl, rfl⟩
    · rw [if_neg h2] at h ⊢
      unfold fin8 at h ⊢
      generalize rdGo f n 63 10 = r at *
      by_cases h3 : r.e ≠ 0
      · rw [if_pos h3]; exact ⟨rfl, rfl⟩
      · rw [if_neg h3] at h ⊢
        by_cases h4 : ¬ Has8 r.fl 256
        · rw [if_pos h4] at h; simp at h
        · rw [if_neg h4] at h ⊢
          by_cases h5 : n < r.p + 2
          · rw [if_pos h5]; exact ⟨rfl, rfl⟩
          · rw [if_neg h5] at h ⊢
            by_cases h6 : (n : Int) < r.p + 2 + fl8 f r.p
            · rw [if_pos h6]; exact ⟨rfl, rfl⟩
            · rw [if_neg h6] at h; simp at h
end Go.Proofs.YteckkcpnfeoehaaDoor

/-
  Layer 2: 'Put', walked again: the block that it answers, whole.
-/
namespace Go.Proofs.YteckkcpnfeoehaaDoor
open Go.RowKit
set_option linter.unusedVariables false
theorem All.set {w : World} {g n i : Nat} {e : TypeId} {V : Nat → Value} (h : All w g e n V) (hi : i < n) (v : Value) : All (w.setCell ⟨g, i, none⟩ v) g e n (fun j => if j = i then v else V j) := by
  unfold All at h ⊢
  have hl : i < (tab n V).length := by rw [tab_len]; exact hi
  have e1 : ((tab n V).toArray.set! i v) = (tab n (fun j => if j = i then v else V j)).toArray := by
    apply Array.ext'
    rw [Array.set!_eq_setIfInBounds, Array.toList_setIfInBounds]
    apply List.ext_getElem?
    intro j
    rw [List.getElem?_set, tab_get, tab_get, tab_len]
    by_cases hj : i = j
    · subst hj; rw [if_pos rfl, if_pos hi, if_pos hi, if_pos rfl]
    · rw [if_neg hj, show (if j = i then v else V j) = V j from if_neg (fun x => hj x.symm)]
  rw [← e1]
  simp [World.setCell, Array.getElem?_modify, h]
set_option maxRecDepth 100000 in
set_option maxHeartbeats 4000000 in
theorem be_putA (n k : Int) (w : World) (hn : In64 n) (hk : In64 k) :
    Calls Tryd.prog 56 #[.int .i64 n, .int .i64 k] w fun e w' => ∃ g, e = .returned (.slice (some ⟨g, 0, none⟩) (clampW k) (clampW k)) ∧ w.heap.size ≤ g ∧ All w' g 5 (clampW k) (U8 (byteOf n (clampW k))) ∧ Since w w' := by
  obtain ⟨i0, hi0, hz0, hz1, hz2⟩ := info_parts Tryd.info_u8
  by_cases h1 : 0 ≤ k ∧ k ≤ 8
  · obtain ⟨m, rfl⟩ : ∃ m : Nat, k = m := ⟨k.toNat, by omega⟩
    obtain ⟨h1, h2⟩ := h1
    have hm : m ≤ 8 := by omega
    have hc : clampW m = m := by unfold clampW; rw [if_neg (by omega), if_neg (by omega)]; rfl
    rw [hc]
    have b1 : 1 * m ≤ 281474976710656 := by omega
    have b2 : m ≤ maxLen := by simp only [maxLen]; omega
    clear hc
    go_enter Tryd.func56, Tryd.ntmps56
    go_wp2_with (at_make; refine wpList_make_tab _ (by rfl) (.tmp 10) (.tmp 10) _ (by rfl) 5 i0 .u8 1 Tryd.underlying33 hi0 hz0 hz1 hz2 .i64 .i64 m (by rfl) (by rfl) b1 b2 ?_; intro w1 hown1 hS1)
    have hrow := All.of_own hown1
    clear hown1
    go_loopw [13] (fun y wr => ∃ j : Nat, j ≤ m ∧ y = .int .i64 j ∧ Since w wr ∧ All wr w.heap.size 5 m (U8 (fun q => if m ≤ q + j then byteOf n m q else 0))) (fun y _ => m - (intOf y).toNat)
    case atStart => exact ⟨0, by omega, rfl, hS1, hrow.congr (fun q hq => by simp only [U8, IntRow]; rw [if_neg (by omega)])⟩
    case round =>
      obtain ⟨j, hj, rfl, hSr, hR⟩ := hrel
      by_cases hjm : j < m
      · obtain ⟨q, hq⟩ : ∃ q : Nat, q + 1 + j = m := ⟨m - 1 - j, by omega⟩
        have hqi : (m : Int) - 1 - (j : Int) = (q : Int) := by omega
        have hqi' : (m : Int) - 1 = (q : Int) + j := by omega
        have hjm' : (j : Int) < m := by omega
        have hqm : (q : Int) < m := by omega
        have hcell := hR.row.1 q (by omega)
        have hfr := hR.row.2.1 q
        go_wp2
        refine ⟨⟨j + 1, by omega, by simp, hSr.setCell (Nat.le_refl _) _, (hR.set (i := q) (by omega) _).congr (fun t ht => ?_)⟩, by simp [intOf]; omega⟩
        by_cases hqt : t = q
        · subst hqt
          simp only [U8, IntRow]
          rw [if_pos trivial, if_pos (by omega), byteOf, show m - 1 - t = j by omega]
        · simp only [U8, IntRow]
          rw [if_neg hqt]
          by_cases ht2 : m ≤ t + j
          · rw [if_pos ht2, if_pos (by omega)]
          · rw [if_neg ht2, if_neg (by omega)]
      · obtain rfl : m = j := by omega
        have hR' := hR.congr (U := U8 (byteOf n m)) (fun q hq => by simp only [U8, IntRow]; rw [if_pos (by omega)])
        clear hR
        go_wp2
        go_ret
        exact ⟨_, rfl, Nat.le_refl _, hR', hSr⟩
  by_cases h2 : k < 0
  · have hc : clampW k = 0 := by unfold clampW; rw [if_pos (by omega)]
    rw [hc]
    have b1 : 1 * 0 ≤ 281474976710656 := by omega
    have b2 : 0 ≤ maxLen := by simp only [maxLen]; omega
    clear hc
    go_enter Tryd.func56, Tryd.ntmps56
    go_wp2_with (at_make; refine wpList_make_tab _ (by rfl) (.tmp 10) (.tmp 10) _ (by rfl) 5 i0 .u8 1 Tryd.underlying33 hi0 hz0 hz1 hz2 .i64 .i64 0 (by rfl) (by rfl) b1 b2 ?_; intro w1 hown1 hS1)
    have hrow := All.of_own hown1
    clear hown1
    go_loopw [13] (fun y wr => ∃ j : Nat, j ≤ 0 ∧ y = .int .i64 j ∧ Since w wr ∧ All wr w.heap.size 5 0 (U8 (fun q => if 0 ≤ q + j then byteOf n 0 q else 0))) (fun y _ => 0 - (intOf y).toNat)
    case atStart => exact ⟨0, by omega, rfl, hS1, hrow.congr (fun q hq => by simp only [U8, IntRow]; rw [if_neg (by omega)])⟩
    case round =>
      obtain ⟨j, hj, rfl, hSr, hR⟩ := hrel
      by_cases hjm : j < 0
      · exact absurd hjm (by omega)
      · obtain rfl : 0 = j := by omega
        have hR' := hR.congr (U := U8 (byteOf n 0)) (fun q hq => by simp only [U8, IntRow]; rw [if_pos (by omega)])
        clear hR
        go_wp2
        go_ret
        exact ⟨_, rfl, Nat.le_refl _, hR', hSr⟩
  · have h2' : 8 < k := by omega
    have hc : clampW k = 8 := by unfold clampW; rw [if_neg (by omega), if_pos (by omega)]
    rw [hc]
    have b1 : 1 * 8 ≤ 281474976710656 := by omega
    have b2 : 8 ≤ maxLen := by simp only [maxLen]; omega
    clear hc
    go_enter Tryd.func56, Tryd.ntmps56
    go_wp2_with (at_make; refine wpList_make_tab _ (by rfl) (.tmp 10) (.tmp 10) _ (by rfl) 5 i0 .u8 1 Tryd.underlying33 hi0 hz0 hz1 hz2 .i64 .i64 8 (by rfl) (by rfl) b1 b2 ?_; intro w1 hown1 hS1)
    have hrow := All.of_own hown1
    clear hown1
    go_loopw [13] (fun y wr => ∃ j : Nat, j ≤ 8 ∧ y = .int .i64 j ∧ Since w wr ∧ All wr w.heap.size 5 8 (U8 (fun q => if 8 ≤ q + j then byteOf n 8 q else 0))) (fun y _ => 8 - (intOf y).toNat)
    case atStart => exact ⟨0, by omega, rfl, hS1, hrow.congr (fun q hq => by simp only [U8, IntRow]; rw [if_neg (by omega)])⟩
    case round =>
      obtain ⟨j, hj, rfl, hSr, hR⟩ := hrel
      by_cases hjm : j < 8
      · obtain ⟨q, hq⟩ : ∃ q : Nat, q + 1 + j = 8 := ⟨8 - 1 - j, by omega⟩
        have hqi : (8 : Int) - 1 - (j : Int) = (q : Int) := by omega
        have hqi' : (8 : Int) - 1 = (q : Int) + j := by omega
        have hjm' : (j : Int) < 8 := by omega
        have hqm : (q : Int) < 8 := by omega
        have hcell := hR.row.1 q (by omega)
        have hfr := hR.row.2.1 q
        go_wp2
        refine ⟨⟨j + 1, by omega, by simp, hSr.setCell (Nat.le_refl _) _, (hR.set (i := q) (by omega) _).congr (fun t ht => ?_)⟩, by simp [intOf]; omega⟩
        by_cases hqt : t = q
        · subst hqt
          simp only [U8, IntRow]
          rw [if_pos trivial, if_pos (by omega), byteOf, show 8 - 1 - t = j by omega]
        · simp only [U8, IntRow]
          rw [if_neg hqt]
          by_cases ht2 : 8 ≤ t + j
          · rw [if_pos ht2, if_pos (by omega)]
          · rw [if_neg ht2, if_neg (by omega)]
      · obtain rfl : 8 = j := by omega
        have hR' := hR.congr (U := U8 (byteOf n 8)) (fun q hq => by simp only [U8, IntRow]; rw [if_pos (by omega)])
        clear hR
        go_wp2
        go_ret
        exact ⟨_, rfl, Nat.le_refl _, hR', hSr⟩
end Go.Proofs.YteckkcpnfeoehaaDoor

/-
  Layer 2: 'Put', walked again: the block that it answers, whole.
-/
namespace Go.Proofs.YteckkcpnfeoehaaDoor
open Go.RowKit
set_option linter.unusedVariables false
end Go.Proofs.YteckkcpnfeoehaaDoor

/-
  Bytes as lists of numbers: rows that read so, rows of a call's own, append; 'Put', 'Copy', 'Same' told by lists.
-/
namespace Go.Proofs.YteckkcpnfeoehaaDoor
open Go.RowKit Go.ChangeShapes Go.WideShapes Go.Deep
set_option linter.unusedVariables false

def byL (x : Int) : List Value := [.int .u8 x]
theorem byL_len (x : Int) : (byL x).length = 1 := rfl
theorem byL_one (x : Int) : ∀ u ∈ byL x, u.oneCell' = true := by
  intro u hu
  simp only [byL, List.mem_cons, List.not_mem_nil, or_false] at hu
  subst hu
  rfl
theorem infoBy : ∃ i z, Tryd.prog.info? 5 = some i ∧ i.zero = some z ∧ i.size = 1 ∧ i.bytes = 1 ∧ z.cells.size = 1 := by
  obtain ⟨i0, hi, hz0, hz1, hz2⟩ := info_parts Tryd.info_u8
  exact ⟨i0, _, hi, hz0, hz1, hz2, rfl⟩
abbrev RdB (w : World) (B : Nat) (A : Option Addr) (L : List Int) : Prop := RdG 1 byL w B A L
abbrev OwnB (w : World) (base : Nat) (v : Value) (L : List Int) : Prop := OwnG 5 1 byL w base v L
def fnL (L : List Int) (j : Nat) : Int := L.getD j 0
theorem fnL_get {L : List Int} {j : Nat} (h : j < L.length) : L[j]? = some (fnL L j) := by
  unfold fnL; rw [List.getD_eq_getElem?_getD, List.getElem?_eq_getElem h]; rfl
section
variable {w w' : World} {B n : Nat} {A : Option Addr} {L : List Int} {f : Nat → Int}
theorem rdb_rd (h : RdB w B A L) : Rd w B A L.length (U8 (fnL L)) := fun hn => by
  obtain ⟨b, o, rfl, hb, hc⟩ := h hn
  refine ⟨b, o, rfl, hb, fun j hj => ?_⟩
  have h1 := hc j _ (fnL_get hj) 0 (by omega)
  rw [Nat.mul_one, Nat.add_zero] at h1
  exact h1
theorem rdb_rd' (h : RdB w B A L) (hn : n = L.length) : Rd w B A n (U8 (fnL L)) := by subst hn; exact rdb_rd h
theorem rdb_of (h : Rd w B A n (U8 f)) (hn : n = L.length) (hf : ∀ j, j < n → f j = fnL L j) : RdB w B A L := fun h0 => by
  subst hn
  obtain ⟨b, o, rfl, hb, hc⟩ := h h0
  refine ⟨b, o, rfl, hb, fun j s hj i hi => ?_⟩
  obtain rfl : i = 0 := by omega
  have hjl : j < L.length := by
    rcases Nat.lt_or_ge j L.length with h | h
    · exact h
    · rw [List.getElem?_eq_none h] at hj; cases hj
  rw [fnL_get hjl] at hj
  injection hj with hj
  subst hj
  rw [Nat.mul_one, Nat.add_zero, hc j hjl, U8, IntRow, hf j hjl]
  rfl
theorem rdb_map (h : Rd w B A n (U8 f)) : RdB w B A ((List.range n).map f) := rdb_of h (by simp) (fun j hj => by simp [fnL, List.getD_eq_getElem?_getD, hj])
/-- A new block of bytes, as a slice. -/
theorem rdb_new (w : World) (b : Nat) (hb : b = w.heap.size) (t : TypeId) (cs : Array Value) (L : List Int) (hcs : cs = (L.map (Value.int .u8)).toArray) : RdB (w.alloc (.cells cs t)) (w.alloc (.cells cs t)).heap.size (some ⟨b, 0, none⟩) L := by
  subst hcs
  refine rdG_lit hb L (fun j s hj i hi => ?_)
  obtain rfl : i = 0 := by omega
  simp [hj, byL]
end
section
variable {P : Program}
/-- append of bytes to bytes of the call's own. -/
theorem wpList_append_b {w w0 : World} {ops : Array Oper} {rest : List Oper} {o : Oper} {a : Act} {Q : Exit → Act → World → Prop} (hgd : o.guard = none) (s x : Operand)
    (ho : o.op = .call { callee := .builtin .append, args := #[s, x], argTypes := #[33, 33] })
    (hS : Since w0 w) (v : Value) (L : List Int) (hs : a.eval s = v) (hown : OwnB w w0.heap.size v L) (B : Nat) (A : Option Addr) (n c : Nat) (M : List Int) (hn : n = M.length) (hx : a.eval x = .slice A n c) (hr : RdB w B A M)
    (hbytes : L.length + M.length ≤ 140737488355328)
    (h : ∀ v' w', OwnB w' w0.heap.size v' (L ++ M) → Since w0 w' → wpList Tryd.prog ops Q rest (a.put o.dst v') w') :
    wpList Tryd.prog ops Q (o :: rest) a w := by
  subst hn
  refine wpList_append_g hgd s x 33 5 ho (by omega) byL_len byL_one 1 Tryd.underlying33 infoBy w0.heap.size v L hs hown B A c M hx hr (by omega) (by simp only [maxLen]; omega) hS.below.size (fun v' w' h9 hg hlt => h v' w' h9 (since_grown hS hg (fun k hk => (hlt k hk).1)))
end
theorem own_app {w : World} {base : Nat} {v : Value} {L M N : List Int} (h : OwnB w base v (L ++ M)) (e : L ++ M = N) : OwnB w base v N := by subst e; exact h

theorem put_l (m : Nat) (x y : Int) (w : World) (hx : In64 x) (hy : y = m) (hm : m ≤ 8) : Calls Tryd.prog 56 #[.int .i64 x, .int .i64 y] w fun e w' => ∃ g, e = .returned (.slice (some ⟨g, 0, none⟩) m m) ∧ w.heap.size ≤ g ∧ RdB w' w'.heap.size (some ⟨g, 0, none⟩) (putL x m) ∧ Since w w' := by
  refine (put_in m x y w hx hy hm).mono ?_
  rintro e w' ⟨g, rfl, hg, hr, hS⟩
  exact ⟨g, rfl, hg, rdb_map (Rd.of_row hr), hS⟩

theorem own_of_all {w : World} {g n base : Nat} {f : Nat → Int} (h : All w g 5 n (U8 f)) (hn : n ≤ maxLen) (hb : base ≤ g) : OwnB w base (.slice (some ⟨g, 0, none⟩) n n) ((List.range n).map f) := by
  have e : tab n (U8 f) = cellsG byL ((List.range n).map f) := by
    unfold tab cellsG
    rw [List.flatMap_map]
    simp only [byL]
    induction (List.range n) with
    | nil => rfl
    | cons a l ih => rw [List.map_cons, List.flatMap_cons, ih]; rfl
  have hl : ((List.range n).map f).length = n := by simp
  unfold All at h
  refine ⟨by rw [cellsG_len byL_len], .inr ⟨g, n, (tab n (U8 f)).toArray, by rw [hl], hb, h, by rw [hl]; exact Nat.le_refl _, hn, by simp [tab_len], by rw [← e, hl, Nat.mul_one]; exact List.take_of_length_le (by rw [tab_len]; exact Nat.le_refl _)⟩⟩

theorem put_o (m : Nat) (x y : Int) (w : World) (hx : In64 x) (hy : y = m) (hm : m ≤ 8) : Calls Tryd.prog 56 #[.int .i64 x, .int .i64 y] w fun e w' => ∃ g, e = .returned (.slice (some ⟨g, 0, none⟩) m m) ∧ w.heap.size ≤ g ∧ OwnB w' w.heap.size (.slice (some ⟨g, 0, none⟩) m m) (putL x m) ∧ Since w w' := by
  subst hy
  have hc : clampW m = m := by unfold clampW; split <;> (try split) <;> omega
  have h := be_putA x m w hx (by unfold In64; omega)
  rw [hc] at h
  refine h.mono ?_
  rintro e w' ⟨g, rfl, hg, hr, hS⟩
  exact ⟨g, rfl, hg, own_of_all hr (by simp only [maxLen]; omega) hg, hS⟩

theorem OwnG.low {α : Type} {t : TypeId} {k : Nat} {enc : α → List Value} {w : World} {base base' : Nat} {v : Value} {L : List α} (h : OwnG t k enc w base v L) (hb : base' ≤ base) : OwnG t k enc w base' v L := by
  refine ⟨h.1, ?_⟩
  rcases h.2 with h0 | ⟨g, cap, cur, e, hg, r⟩
  · exact .inl h0
  · exact .inr ⟨g, cap, cur, e, Nat.le_trans hb hg, r⟩
theorem byteOf_range (n : Int) (m j : Nat) : 0 ≤ byteOf n m j ∧ byteOf n m j ≤ 255 := byte_range n m j
def Bytes (L : List Int) : Prop := ∀ v ∈ L, 0 ≤ v ∧ v ≤ 255
theorem bytes_put (x : Int) (m : Nat) : Bytes (putL x m) := fun v hv => by
  unfold putL at hv
  obtain ⟨j, _, rfl⟩ := List.mem_map.1 hv
  exact byte_range _ _ _
theorem bytes_app {A B : List Int} (h : Bytes A) (k : Bytes B) : Bytes (A ++ B) := fun v hv => by
  rw [List.mem_append] at hv
  exact hv.elim (h v) (k v)
theorem bytes_fn {L : List Int} (h : Bytes L) : ∀ j, j < L.length → 0 ≤ fnL L j ∧ fnL L j ≤ 255 := fun j hj => h _ (List.mem_of_getElem? (fnL_get hj))
theorem bytes_map {n : Nat} {f : Nat → Int} (h : ∀ j, j < n → 0 ≤ f j ∧ f j ≤ 255) : Bytes ((List.range n).map f) := fun v hv => by
  obtain ⟨j, hj, rfl⟩ := List.mem_map.1 hv
  exact h j (by simpa using hj)
theorem same_l (A B : Option Addr) (n m c d : Nat) (L M : List Int) (w : World) (hn : n = L.length) (hm : m = M.length) (h1 : RdB w w.heap.size A L) (h2 : RdB w w.heap.size B M) (e : L = M) :
    Calls Tryd.prog 15 #[.slice A n c, .slice B m d] w fun e w' => e = .returned (.bool true) ∧ w' = w := by
  subst e; subst hn; subst hm
  exact ref_same A B _ c d _ _ w (rdb_rd h1) (rdb_rd h2) (fun _ _ => rfl)
theorem copy_l (A : Option Addr) (n c : Nat) (L : List Int) (w : World) (hn : n = L.length) (h : RdB w w.heap.size A L) (hl : L.length ≤ 140737488355328) :
    Calls Tryd.prog 37 #[.slice A n c] w fun e w' => ∃ g cap, e = .returned (.slice (some ⟨g, 0, none⟩) n cap) ∧ n ≤ cap ∧ w.heap.size ≤ g ∧ OwnB w' w.heap.size (.slice (some ⟨g, 0, none⟩) n cap) L ∧ RdB w' w'.heap.size (some ⟨g, 0, none⟩) L ∧ Since w w' := by
  subst hn
  refine (ref_copy A L.length c (fnL L) w (rdb_rd h) hl).mono ?_
  rintro e w' ⟨g, cap, rfl, ho, hS⟩
  refine ⟨g, cap, rfl, ho.cap, ho.base, ?_, rdb_of (Rd.of_row ho.row) rfl (fun _ _ => rfl), hS⟩
  unfold Own at ho
  have e : tab L.length (U8 (fnL L)) = cellsG byL L := by
    apply List.ext_getElem?
    intro j
    rw [tab_get]
    by_cases hj : j < L.length
    · rw [if_pos hj]
      have := cellsG_get (k := 1) byL_len L j _ (fnL_get hj) 0 (by omega)
      rw [Nat.mul_one, Nat.add_zero] at this
      rw [this]; rfl
    · rw [if_neg hj, List.getElem?_eq_none (by rw [cellsG_len byL_len]; omega)]
  rw [e] at ho
  exact ho
end Go.Proofs.YteckkcpnfeoehaaDoor
