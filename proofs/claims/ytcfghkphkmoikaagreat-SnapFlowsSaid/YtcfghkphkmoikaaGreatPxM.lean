/-
  Layer 16: which pixels a line goes through, in numbers: the program's way and the document's.
-/
import Derived.Test.YtcfghkphkmoikaaGreatMqW
namespace Go.Proofs.YtcfghkphkmoikaaGreat
set_option maxRecDepth 100000
set_option linter.unusedVariables false

/-- A part of a line's way between two shares. -/
structure Stc where
  (ln ld hn hd : Int)
  (lo ho : Bool)
def cmpF (n d m e : Int) : Int := cmpI (n * e) (m * d)
def aftS (s : Stc) (n d : Int) (o : Bool) : Stc := if cmpF n d s.ln s.ld = 1 then ⟨n, d, s.hn, s.hd, o, s.ho⟩ else if cmpF n d s.ln s.ld = 0 then ⟨s.ln, s.ld, s.hn, s.hd, s.lo || o, s.ho⟩ else s
def befS (s : Stc) (n d : Int) (o : Bool) : Stc := if cmpF n d s.hn s.hd = -1 then ⟨s.ln, s.ld, n, d, s.lo, o⟩ else if cmpF n d s.hn s.hd = 0 then ⟨s.ln, s.ld, s.hn, s.hd, s.lo, s.ho || o⟩ else s
def cutS (s : Stc) (a b row : Int) : Stc :=
  if a < b then befS (aftS s (64 * row - 32 - a) (b - a) false) (64 * row + 32 - a) (b - a) true
  else if b < a then befS (aftS s (a - (64 * row + 32)) (a - b) true) (a - (64 * row - 32)) (a - b) false
  else if a < 64 * row - 32 ∨ 64 * row + 32 ≤ a then ⟨s.ln, s.ld, -1, 1, s.lo, s.ho⟩ else s
def empS (s : Stc) : Bool := decide (0 < cmpF s.ln s.ld s.hn s.hd) || (decide (cmpF s.ln s.ld s.hn s.hd = 0) && (s.lo || s.ho))
/-- A share p of q lies behind n of d, or is it. -/
def behS (n d : Int) (o : Bool) (p q : Int) : Prop := if o then n * q < p * d else n * q ≤ p * d
def aheS (n d : Int) (o : Bool) (p q : Int) : Prop := if o then p * d < n * q else p * d ≤ n * q
def InS (s : Stc) (p q : Int) : Prop := behS s.ln s.ld s.lo p q ∧ aheS s.hn s.hd s.ho p q
def WfS (s : Stc) : Prop := 0 < s.ld ∧ 0 < s.hd
theorem cmp_is (a b : Int) : (cmpI a b = -1 ∧ a < b) ∨ (cmpI a b = 0 ∧ a = b) ∨ (cmpI a b = 1 ∧ b < a) := by
  unfold cmpI
  split
  · exact .inl ⟨rfl, by assumption⟩
  · split
    · exact .inr (.inr ⟨rfl, by assumption⟩)
    · exact .inr (.inl ⟨rfl, by omega⟩)
/-- n of d is less than m of e: what lies behind the latter lies behind the former. -/
theorem fr_lt {n d m e p q : Int} (hd : 0 < d) (he : 0 < e) (hq : 0 < q) (h : n * e < m * d) (k : m * q ≤ p * e) : n * q < p * d := by
  have h1 : n * e * q < m * d * q := Int.mul_lt_mul_of_pos_right h hq
  have h2 : m * q * d ≤ p * e * d := Int.mul_le_mul_of_nonneg_right k (by omega)
  have h3 : n * q * e < p * d * e := by grind
  exact Int.lt_of_mul_lt_mul_right h3 (by omega)
theorem fr_gt {n d m e p q : Int} (hd : 0 < d) (he : 0 < e) (hq : 0 < q) (h : m * d < n * e) (k : p * e ≤ m * q) : p * d < n * q := by
  have h1 : m * d * q < n * e * q := Int.mul_lt_mul_of_pos_right h hq
  have h2 : p * e * d ≤ m * q * d := Int.mul_le_mul_of_nonneg_right k (by omega)
  have h3 : p * d * e < n * q * e := by grind
  exact Int.lt_of_mul_lt_mul_right h3 (by omega)
theorem fr_eq {n d m e p q : Int} (hd : 0 < d) (he : 0 < e) (h : n * e = m * d) : (n * q < p * d ↔ m * q < p * e) ∧ (n * q ≤ p * d ↔ m * q ≤ p * e) ∧ (p * d < n * q ↔ p * e < m * q) ∧ (p * d ≤ n * q ↔ p * e ≤ m * q) := by
  have e1 : n * q * e = m * q * d := by grind
  have e2 : p * d * e = p * e * d := by grind
  refine ⟨⟨fun k => ?_, fun k => ?_⟩, ⟨fun k => ?_, fun k => ?_⟩, ⟨fun k => ?_, fun k => ?_⟩, ⟨fun k => ?_, fun k => ?_⟩⟩
  · have := Int.mul_lt_mul_of_pos_right k he
    exact Int.lt_of_mul_lt_mul_right (a := d) (by omega) (by omega)
  · have := Int.mul_lt_mul_of_pos_right k hd
    exact Int.lt_of_mul_lt_mul_right (a := e) (by omega) (by omega)
  · have := Int.mul_le_mul_of_nonneg_right k (show 0 ≤ e by omega)
    exact Int.le_of_mul_le_mul_right (a := d) (by omega) (by omega)
  · have := Int.mul_le_mul_of_nonneg_right k (show 0 ≤ d by omega)
    exact Int.le_of_mul_le_mul_right (a := e) (by omega) (by omega)
  · have := Int.mul_lt_mul_of_pos_right k he
    exact Int.lt_of_mul_lt_mul_right (a := d) (by omega) (by omega)
  · have := Int.mul_lt_mul_of_pos_right k hd
    exact Int.lt_of_mul_lt_mul_right (a := e) (by omega) (by omega)
  · have := Int.mul_le_mul_of_nonneg_right k (show 0 ≤ e by omega)
    exact Int.le_of_mul_le_mul_right (a := d) (by omega) (by omega)
  · have := Int.mul_le_mul_of_nonneg_right k (show 0 ≤ d by omega)
    exact Int.le_of_mul_le_mul_right (a := e) (by omega) (by omega)
theorem aft_wf {s : Stc} (h : WfS s) {n d : Int} {o : Bool} (hd : 0 < d) : WfS (aftS s n d o) := by
  unfold aftS WfS at *
  split
  · exact ⟨hd, h.2⟩
  · split
    · exact h
    · exact h
theorem bef_wf {s : Stc} (h : WfS s) {n d : Int} {o : Bool} (hd : 0 < d) : WfS (befS s n d o) := by
  unfold befS WfS at *
  split
  · exact ⟨h.1, hd⟩
  · split
    · exact h
    · exact h
theorem beh_weak {n d : Int} {o : Bool} {p q : Int} (h : behS n d o p q) : n * q ≤ p * d := by
  unfold behS at h; split at h <;> omega
theorem ahe_weak {n d : Int} {o : Bool} {p q : Int} (h : aheS n d o p q) : p * d ≤ n * q := by
  unfold aheS at h; split at h <;> omega
theorem aft_in {s : Stc} (h : WfS s) {n d : Int} {o : Bool} (hd : 0 < d) {p q : Int} (hq : 0 < q) : InS (aftS s n d o) p q ↔ InS s p q ∧ behS n d o p q := by
  obtain ⟨h1, h2⟩ := h
  unfold aftS cmpF
  rcases cmp_is (n * s.ld) (s.ln * d) with ⟨e, k⟩ | ⟨e, k⟩ | ⟨e, k⟩
  · rw [e, if_neg (by decide), if_neg (by decide)]
    refine ⟨fun hi => ⟨hi, ?_⟩, fun hi => hi.1⟩
    have := fr_lt (p := p) hd h1 hq k (beh_weak hi.1)
    unfold behS; split <;> omega
  · rw [e, if_neg (by decide), if_pos rfl]
    obtain ⟨f1, f2, _, _⟩ := fr_eq (p := p) (q := q) hd h1 k
    unfold InS behS
    simp only
    cases s.lo <;> cases o <;> simp only [Bool.or_false, Bool.or_true, Bool.false_eq_true, if_true, if_false] <;> constructor <;> intro hh <;> (refine ⟨?_, ?_⟩) <;> (try refine ⟨?_, ?_⟩) <;> (first | exact hh.1 | exact hh.2 | exact hh.1.1 | exact hh.1.2 | (have := hh.1; omega) | (have := hh.2; have := hh.1.1; omega))
  · rw [e, if_pos rfl]
    unfold InS
    simp only
    refine ⟨fun hi => ⟨⟨?_, hi.2⟩, hi.1⟩, fun hi => ⟨hi.2, hi.1.2⟩⟩
    have := fr_lt (p := p) h1 hd hq k (beh_weak hi.1)
    unfold behS; split <;> omega
theorem bef_in {s : Stc} (h : WfS s) {n d : Int} {o : Bool} (hd : 0 < d) {p q : Int} (hq : 0 < q) : InS (befS s n d o) p q ↔ InS s p q ∧ aheS n d o p q := by
  obtain ⟨h1, h2⟩ := h
  unfold befS cmpF
  rcases cmp_is (n * s.hd) (s.hn * d) with ⟨e, k⟩ | ⟨e, k⟩ | ⟨e, k⟩
  · rw [e, if_pos rfl]
    unfold InS
    simp only
    refine ⟨fun hi => ⟨⟨hi.1, ?_⟩, hi.2⟩, fun hi => ⟨hi.1.1, hi.2⟩⟩
    have := fr_gt (p := p) h2 hd hq k (ahe_weak hi.2)
    unfold aheS; split <;> omega
  · rw [e, if_neg (by decide), if_pos rfl]
    obtain ⟨_, _, f1, f2⟩ := fr_eq (p := p) (q := q) hd h2 k
    unfold InS aheS
    simp only
    cases s.ho <;> cases o <;> simp only [Bool.or_false, Bool.or_true, Bool.false_eq_true, if_true, if_false] <;> constructor <;> intro hh <;> (refine ⟨?_, ?_⟩) <;> (try refine ⟨?_, ?_⟩) <;> (first | exact hh.1 | exact hh.2 | exact hh.1.1 | exact hh.1.2 | (have := hh.2; omega) | (have := hh.2; have := hh.1.2; omega))
  · rw [e, if_neg (by decide), if_neg (by decide)]
    refine ⟨fun hi => ⟨hi, ?_⟩, fun hi => hi.1⟩
    have := fr_gt (p := p) hd h2 hq k (ahe_weak hi.2)
    unfold aheS; split <;> omega
/-- A coordinate at a share of the way is in a row of pixels. -/
def rowS (a b row p q : Int) : Prop := (64 * row - 32) * q ≤ a * q + p * (b - a) ∧ a * q + p * (b - a) < (64 * row + 32) * q
theorem cut_wf {s : Stc} (h : WfS s) (a b row : Int) : WfS (cutS s a b row) := by
  unfold cutS
  split
  · exact bef_wf (aft_wf h (by omega)) (by omega)
  · split
    · exact bef_wf (aft_wf h (by omega)) (by omega)
    · split
      · exact ⟨h.1, by simp⟩
      · exact h
theorem cut_in {s : Stc} (h : WfS s) (a b row : Int) {p q : Int} (hq : 0 < q) (hp : 0 ≤ p) : InS (cutS s a b row) p q ↔ InS s p q ∧ rowS a b row p q := by
  unfold cutS
  split
  · rename_i hab
    rw [bef_in (aft_wf h (by omega)) (by omega) hq, aft_in h (by omega) hq]
    have e1 : behS (64 * row - 32 - a) (b - a) false p q ↔ (64 * row - 32) * q ≤ a * q + p * (b - a) := by
      unfold behS; simp only [Bool.false_eq_true, if_false]
      have e : (64 * row - 32 - a) * q = (64 * row - 32) * q - a * q := by grind
      omega
    have e2 : aheS (64 * row + 32 - a) (b - a) true p q ↔ a * q + p * (b - a) < (64 * row + 32) * q := by
      unfold aheS; simp only [if_true]
      have e : (64 * row + 32 - a) * q = (64 * row + 32) * q - a * q := by grind
      omega
    rw [e1, e2]
    unfold rowS
    simp only [and_assoc]
  · split
    · rename_i _ hab
      rw [bef_in (aft_wf h (by omega)) (by omega) hq, aft_in h (by omega) hq]
      have e1 : behS (a - (64 * row + 32)) (a - b) true p q ↔ a * q + p * (b - a) < (64 * row + 32) * q := by
        unfold behS; simp only [if_true]
        have e : (a - (64 * row + 32)) * q = a * q - (64 * row + 32) * q := by grind
        have e' : p * (a - b) = -(p * (b - a)) := by grind
        omega
      have e2 : aheS (a - (64 * row - 32)) (a - b) false p q ↔ (64 * row - 32) * q ≤ a * q + p * (b - a) := by
        unfold aheS; simp only [Bool.false_eq_true, if_false]
        have e : (a - (64 * row - 32)) * q = a * q - (64 * row - 32) * q := by grind
        have e' : p * (a - b) = -(p * (b - a)) := by grind
        omega
      rw [e1, e2]
      unfold rowS
      simp only [and_assoc]
      constructor
      · intro hh; exact ⟨hh.1, hh.2.2, hh.2.1⟩
      · intro hh; exact ⟨hh.1, hh.2.2, hh.2.1⟩
    · obtain rfl : a = b := by omega
      have e0 : p * (a - a) = 0 := by rw [Int.sub_self, Int.mul_zero]
      unfold rowS
      rw [e0]
      split
      · rename_i hh
        constructor
        · intro hi
          exfalso
          have := ahe_weak hi.2
          simp only at this
          omega
        · intro ⟨_, h1, h2⟩
          exfalso
          rcases hh with hh | hh
          · have : a * q < (64 * row - 32) * q := Int.mul_lt_mul_of_pos_right hh hq
            omega
          · have : (64 * row + 32) * q ≤ a * q := Int.mul_le_mul_of_nonneg_right hh (by omega)
            omega
      · rename_i hh
        constructor
        · intro hi
          have h1 : (64 * row - 32) * q ≤ a * q := Int.mul_le_mul_of_nonneg_right (by omega) (by omega)
          have h2 : a * q < (64 * row + 32) * q := Int.mul_lt_mul_of_pos_right (by omega) hq
          exact ⟨hi, by omega, by omega⟩
        · exact fun hi => hi.1
theorem emp_no {s : Stc} (h : WfS s) : empS s = false ↔ ∃ p q, 0 < q ∧ InS s p q := by
  obtain ⟨h1, h2⟩ := h
  unfold empS cmpF
  rcases cmp_is (s.ln * s.hd) (s.hn * s.ld) with ⟨e, k⟩ | ⟨e, k⟩ | ⟨e, k⟩
  · rw [e]
    refine ⟨fun _ => ⟨s.ln * s.hd + s.hn * s.ld, 2 * (s.ld * s.hd), by have := Int.mul_pos h1 h2; omega, ?_, ?_⟩, fun _ => by simp⟩
    · have e1 : s.ln * (2 * (s.ld * s.hd)) = s.ln * s.hd * s.ld + s.ln * s.hd * s.ld := by grind
      have e2 : (s.ln * s.hd + s.hn * s.ld) * s.ld = s.ln * s.hd * s.ld + s.hn * s.ld * s.ld := by grind
      have e3 : s.ln * s.hd * s.ld < s.hn * s.ld * s.ld := Int.mul_lt_mul_of_pos_right k h1
      unfold behS; split <;> omega
    · have e1 : s.hn * (2 * (s.ld * s.hd)) = s.hn * s.ld * s.hd + s.hn * s.ld * s.hd := by grind
      have e2 : (s.ln * s.hd + s.hn * s.ld) * s.hd = s.ln * s.hd * s.hd + s.hn * s.ld * s.hd := by grind
      have e3 : s.ln * s.hd * s.hd < s.hn * s.ld * s.hd := Int.mul_lt_mul_of_pos_right k h2
      unfold aheS; split <;> omega
  · rw [e]
    simp only [Int.lt_irrefl, decide_false, decide_true, Bool.false_or, Bool.true_and, Bool.or_eq_false_iff]
    constructor
    · intro ⟨ha, hb⟩
      refine ⟨s.ln, s.ld, h1, ?_, ?_⟩
      · unfold behS; rw [ha]; simp
      · unfold aheS; rw [hb]; simp only [Bool.false_eq_true, if_false]; omega
    · intro ⟨p, q, hq, ha, hb⟩
      obtain ⟨f1, f2, f3, f4⟩ := fr_eq (p := p) (q := q) h1 h2 k
      have wa := beh_weak ha
      have wb := ahe_weak hb
      constructor
      · cases hl : s.lo
        · rfl
        · unfold behS at ha; rw [hl] at ha; simp only [if_true] at ha; omega
      · cases hl : s.ho
        · rfl
        · unfold aheS at hb; rw [hl] at hb; simp only [if_true] at hb; omega
  · rw [e]
    constructor
    · intro hh; simp at hh
    · intro ⟨p, q, hq, ha, hb⟩
      have := fr_lt (p := p) h2 h1 hq k (beh_weak ha)
      have := ahe_weak hb
      omega
def st0 : Stc := ⟨0, 1, 1, 1, false, false⟩
theorem st0_in {p q : Int} : InS st0 p q ↔ 0 ≤ p ∧ p ≤ q := by
  unfold InS behS aheS st0
  simp
/-- A line goes through a pixel. -/
def HitG (ax ay bx bz x y : Int) : Prop := ∃ p q, 0 < q ∧ 0 ≤ p ∧ p ≤ q ∧ rowS ax bx x p q ∧ rowS ay bz y p q
def hitS (ax ay bx bz x y : Int) : Bool := !empS (cutS (cutS st0 ax bx x) ay bz y)
theorem aft_lo {s : Stc} (h : WfS s) (h0 : 0 ≤ s.ln) {n d : Int} {o : Bool} (hd : 0 < d) : 0 ≤ (aftS s n d o).ln := by
  unfold aftS cmpF
  rcases cmp_is (n * s.ld) (s.ln * d) with ⟨e, k⟩ | ⟨e, k⟩ | ⟨e, k⟩
  · rw [e, if_neg (by decide), if_neg (by decide)]; exact h0
  · rw [e, if_neg (by decide), if_pos rfl]; exact h0
  · rw [e, if_pos rfl]
    have h1 := Int.mul_nonneg h0 (show 0 ≤ d by omega)
    rcases Int.lt_or_le n 0 with hn | hn
    · have := Int.mul_neg_of_neg_of_pos hn h.1
      omega
    · exact hn
theorem bef_lo {s : Stc} (h0 : 0 ≤ s.ln) {n d : Int} {o : Bool} : 0 ≤ (befS s n d o).ln := by
  unfold befS
  split
  · exact h0
  · split
    · exact h0
    · exact h0
theorem cut_lo {s : Stc} (h : WfS s) (h0 : 0 ≤ s.ln) (a b row : Int) : 0 ≤ (cutS s a b row).ln := by
  unfold cutS
  split
  · exact bef_lo (aft_lo h h0 (by omega))
  · split
    · exact bef_lo (aft_lo h h0 (by omega))
    · split
      · exact h0
      · exact h0
theorem in_pos {s : Stc} (h : WfS s) (h0 : 0 ≤ s.ln) {p q : Int} (hq : 0 < q) (hi : InS s p q) : 0 ≤ p := by
  have h1 := beh_weak hi.1
  have h2 := Int.mul_nonneg h0 (show 0 ≤ q by omega)
  rcases Int.lt_or_le p 0 with hn | hn
  · have := Int.mul_neg_of_neg_of_pos hn h.1
    omega
  · exact hn
theorem hit_iff (ax ay bx bz x y : Int) : hitS ax ay bx bz x y = true ↔ HitG ax ay bx bz x y := by
  have w0 : WfS st0 := by unfold WfS st0; simp
  have w1 := cut_wf w0 ax bx x
  have w2 := cut_wf w1 ay bz y
  have l1 := cut_lo w0 (show (0 : Int) ≤ st0.ln by unfold st0; simp) ax bx x
  have l2 := cut_lo w1 l1 ay bz y
  unfold hitS HitG
  rw [Bool.not_eq_true', emp_no w2]
  constructor
  · intro ⟨p, q, hq, hi⟩
    have hp := in_pos w2 l2 hq hi
    rw [cut_in w1 ay bz y hq hp, cut_in w0 ax bx x hq hp, st0_in] at hi
    exact ⟨p, q, hq, hp, hi.1.1.2, hi.1.2, hi.2⟩
  · intro ⟨p, q, hq, hp, hpq, h1, h2⟩
    refine ⟨p, q, hq, ?_⟩
    rw [cut_in w1 ay bz y hq hp, cut_in w0 ax bx x hq hp, st0_in]
    exact ⟨⟨⟨hp, hpq⟩, h1⟩, h2⟩
theorem row_rev {a b row p q : Int} : rowS b a row (q - p) q ↔ rowS a b row p q := by
  unfold rowS
  have e : b * q + (q - p) * (a - b) = a * q + p * (b - a) := by grind
  rw [e]
theorem hit_rev (ax ay bx bz x y : Int) : HitG bx bz ax ay x y ↔ HitG ax ay bx bz x y := by
  unfold HitG
  constructor
  · intro ⟨p, q, hq, hp, hpq, h1, h2⟩
    exact ⟨q - p, q, hq, by omega, by omega, row_rev.2 h1, row_rev.2 h2⟩
  · intro ⟨p, q, hq, hp, hpq, h1, h2⟩
    exact ⟨q - p, q, hq, by omega, by omega, row_rev.2 h1, row_rev.2 h2⟩
theorem row_mv {a b row p q d : Int} : rowS (a + 64 * d) (b + 64 * d) (row + d) p q ↔ rowS a b row p q := by
  unfold rowS
  have e : (a + 64 * d) * q + p * (b + 64 * d - (a + 64 * d)) = a * q + p * (b - a) + 64 * d * q := by grind
  have e1 : (64 * (row + d) - 32) * q = (64 * row - 32) * q + 64 * d * q := by grind
  have e2 : (64 * (row + d) + 32) * q = (64 * row + 32) * q + 64 * d * q := by grind
  rw [e, e1, e2]
  omega
theorem hit_mv (ax ay bx bz x y d e : Int) : HitG (ax + 64 * d) (ay + 64 * e) (bx + 64 * d) (bz + 64 * e) (x + d) (y + e) ↔ HitG ax ay bx bz x y := by
  unfold HitG
  constructor
  · intro ⟨p, q, hq, hp, hpq, h1, h2⟩
    exact ⟨p, q, hq, hp, hpq, row_mv.1 h1, row_mv.1 h2⟩
  · intro ⟨p, q, hq, hp, hpq, h1, h2⟩
    exact ⟨p, q, hq, hp, hpq, row_mv.2 h1, row_mv.2 h2⟩
/-- The pixel of a point. -/
def pxI (x : Int) : Int := (x + 32) / 64
/-- A point at a share of the way lies in its own pixel. -/
theorem row_at {a b p q v : Int} (hq : 0 < q) (hv : v * q = a * q + p * (b - a)) : rowS a b (pxI v) p q := by
  unfold rowS pxI
  rw [← hv]
  constructor
  · exact Int.mul_le_mul_of_nonneg_right (by omega) (by omega)
  · exact Int.mul_lt_mul_of_pos_right (by omega) hq
/-- A share with its own bound; the document's. -/
theorem hit_at {ax ay bx bz p q u v : Int} (hq : 0 < q) (hp : 0 ≤ p) (hpq : p ≤ q) (hu : u * q = ax * q + p * (bx - ax)) (hv : v * q = ay * q + p * (bz - ay)) : HitG ax ay bx bz (pxI u) (pxI v) :=
  ⟨p, q, hq, hp, hpq, row_at hq hu, row_at hq hv⟩
/-- The document's way to say it. -/
structure Shr where
  (n d : Int)
  (o : Bool)
def abvS (a b : Shr) : Int := cmpI (a.n * b.d) (b.n * a.d)
def latS (a b : Shr) : Shr := if 0 < abvS a b ∨ (abvS a b = 0 ∧ a.o = true) then a else b
def sooS (a b : Shr) : Shr := if abvS a b < 0 ∨ (abvS a b = 0 ∧ a.o = true) then a else b
def InR (f t : Shr) (p q : Int) : Prop := behS f.n f.d f.o p q ∧ aheS t.n t.d t.o p q
theorem lat_in {a b : Shr} (ha : 0 < a.d) (hb : 0 < b.d) {p q : Int} (hq : 0 < q) : behS (latS a b).n (latS a b).d (latS a b).o p q ↔ behS a.n a.d a.o p q ∧ behS b.n b.d b.o p q := by
  unfold latS abvS
  rcases cmp_is (a.n * b.d) (b.n * a.d) with ⟨e, k⟩ | ⟨e, k⟩ | ⟨e, k⟩
  · rw [e, if_neg (by omega)]
    refine ⟨fun hi => ⟨?_, hi⟩, fun hi => hi.2⟩
    have := fr_lt (p := p) ha hb hq k (beh_weak hi)
    unfold behS; split <;> omega
  · obtain ⟨f1, f2, _, _⟩ := fr_eq (p := p) (q := q) ha hb k
    cases ho : a.o
    · rw [e, if_neg (by simp)]
      refine ⟨fun hi => ⟨?_, hi⟩, fun hi => hi.2⟩
      have := beh_weak hi
      unfold behS; simp only [Bool.false_eq_true, if_false]; omega
    · rw [e, if_pos (by simp), ho]
      refine ⟨fun hi => ⟨hi, ?_⟩, fun hi => hi.1⟩
      unfold behS at hi; simp only [if_true] at hi
      unfold behS; split <;> omega
  · rw [e, if_pos (by omega)]
    refine ⟨fun hi => ⟨hi, ?_⟩, fun hi => hi.1⟩
    have := fr_lt (p := p) hb ha hq k (beh_weak hi)
    unfold behS; split <;> omega
theorem soo_in {a b : Shr} (ha : 0 < a.d) (hb : 0 < b.d) {p q : Int} (hq : 0 < q) : aheS (sooS a b).n (sooS a b).d (sooS a b).o p q ↔ aheS a.n a.d a.o p q ∧ aheS b.n b.d b.o p q := by
  unfold sooS abvS
  rcases cmp_is (a.n * b.d) (b.n * a.d) with ⟨e, k⟩ | ⟨e, k⟩ | ⟨e, k⟩
  · rw [e, if_pos (by omega)]
    refine ⟨fun hi => ⟨hi, ?_⟩, fun hi => hi.1⟩
    have := fr_gt (p := p) hb ha hq k (ahe_weak hi)
    unfold aheS; split <;> omega
  · obtain ⟨_, _, f1, f2⟩ := fr_eq (p := p) (q := q) ha hb k
    cases ho : a.o
    · rw [e, if_neg (by simp)]
      refine ⟨fun hi => ⟨?_, hi⟩, fun hi => hi.2⟩
      have := ahe_weak hi
      unfold aheS; simp only [Bool.false_eq_true, if_false]; omega
    · rw [e, if_pos (by simp), ho]
      refine ⟨fun hi => ⟨hi, ?_⟩, fun hi => hi.1⟩
      unfold aheS at hi; simp only [if_true] at hi
      unfold aheS; split <;> omega
  · rw [e, if_neg (by omega)]
    refine ⟨fun hi => ⟨?_, hi⟩, fun hi => hi.2⟩
    have := fr_gt (p := p) ha hb hq k (ahe_weak hi)
    unfold aheS; split <;> omega
theorem lat_d {a b : Shr} (ha : 0 < a.d) (hb : 0 < b.d) : 0 < (latS a b).d := by unfold latS; split <;> assumption
theorem soo_d {a b : Shr} (ha : 0 < a.d) (hb : 0 < b.d) : 0 < (sooS a b).d := by unfold sooS; split <;> assumption
/-- clip: the two bounds, and whether there is a way at all. -/
def clpF (at' d lo hi : Int) (f : Shr) : Shr := if d = 0 then f else if 0 < d then latS f ⟨lo - at', d, false⟩ else latS f ⟨at' - hi, -d, true⟩
def clpT (at' d lo hi : Int) (t : Shr) : Shr := if d = 0 then t else if 0 < d then sooS t ⟨hi - at', d, true⟩ else sooS t ⟨at' - lo, -d, false⟩
def clpB (at' d lo hi : Int) : Bool := if d = 0 then decide (lo ≤ at' ∧ at' < hi) else true
theorem clp_d {at' d lo hi : Int} {f t : Shr} (hf : 0 < f.d) (ht : 0 < t.d) : 0 < (clpF at' d lo hi f).d ∧ 0 < (clpT at' d lo hi t).d := by
  unfold clpF clpT
  split
  · exact ⟨hf, ht⟩
  · split
    · exact ⟨lat_d hf (by simp only; omega), soo_d ht (by simp only; omega)⟩
    · exact ⟨lat_d hf (by simp only; omega), soo_d ht (by simp only; omega)⟩
theorem clp_in {a b row : Int} {f t : Shr} (hf : 0 < f.d) (ht : 0 < t.d) {p q : Int} (hq : 0 < q) :
    (clpB a (b - a) (64 * row - 32) (64 * row + 32) = true ∧ InR (clpF a (b - a) (64 * row - 32) (64 * row + 32) f) (clpT a (b - a) (64 * row - 32) (64 * row + 32) t) p q) ↔ InR f t p q ∧ rowS a b row p q := by
  unfold clpB clpF clpT InR rowS
  split
  · rename_i h0
    have hb : b = a := by omega
    have e0 : p * (b - a) = 0 := by rw [h0, Int.mul_zero]
    rw [e0]
    simp only [decide_eq_true_eq]
    constructor
    · intro ⟨⟨h1, h2⟩, h3⟩
      have k1 : (64 * row - 32) * q ≤ a * q := Int.mul_le_mul_of_nonneg_right h1 (by omega)
      have k2 : a * q < (64 * row + 32) * q := Int.mul_lt_mul_of_pos_right h2 hq
      exact ⟨h3, by omega, by omega⟩
    · intro ⟨h3, h1, h2⟩
      refine ⟨⟨?_, ?_⟩, h3⟩
      · exact Int.le_of_mul_le_mul_right (a := q) (by omega) hq
      · exact Int.lt_of_mul_lt_mul_right (a := q) (by omega) (by omega)
  · split
    · rename_i _ hd
      rw [lat_in hf (by simp only; omega) hq, soo_in ht (by simp only; omega) hq]
      have e1 : behS (64 * row - 32 - a) (b - a) false p q ↔ (64 * row - 32) * q ≤ a * q + p * (b - a) := by
        unfold behS; simp only [Bool.false_eq_true, if_false]
        have e : (64 * row - 32 - a) * q = (64 * row - 32) * q - a * q := by grind
        omega
      have e2 : aheS (64 * row + 32 - a) (b - a) true p q ↔ a * q + p * (b - a) < (64 * row + 32) * q := by
        unfold aheS; simp only [if_true]
        have e : (64 * row + 32 - a) * q = (64 * row + 32) * q - a * q := by grind
        omega
      simp only [e1, e2, true_and]
      constructor
      · intro ⟨⟨x1, x2⟩, x3, x4⟩; exact ⟨⟨x1, x3⟩, x2, x4⟩
      · intro ⟨⟨x1, x3⟩, x2, x4⟩; exact ⟨⟨x1, x2⟩, x3, x4⟩
    · rename_i _ hd
      rw [lat_in hf (by simp only; omega) hq, soo_in ht (by simp only; omega) hq]
      have e' : p * -(b - a) = -(p * (b - a)) := by grind
      have e1 : behS (a - (64 * row + 32)) (-(b - a)) true p q ↔ a * q + p * (b - a) < (64 * row + 32) * q := by
        unfold behS; simp only [if_true]
        have e : (a - (64 * row + 32)) * q = a * q - (64 * row + 32) * q := by grind
        omega
      have e2 : aheS (a - (64 * row - 32)) (-(b - a)) false p q ↔ (64 * row - 32) * q ≤ a * q + p * (b - a) := by
        unfold aheS; simp only [Bool.false_eq_true, if_false]
        have e : (a - (64 * row - 32)) * q = a * q - (64 * row - 32) * q := by grind
        omega
      simp only [e1, e2, true_and]
      constructor
      · intro ⟨⟨x1, x2⟩, x3, x4⟩; exact ⟨⟨x1, x3⟩, x4, x2⟩
      · intro ⟨⟨x1, x3⟩, x4, x2⟩; exact ⟨⟨x1, x2⟩, x3, x4⟩
def endR (f t : Shr) : Bool := decide (0 < abvS t f) || (decide (abvS t f = 0) && (!f.o && !t.o))
theorem end_iff {f t : Shr} (hf : 0 < f.d) (ht : 0 < t.d) : endR f t = true ↔ ∃ p q, 0 < q ∧ InR f t p q := by
  have h := emp_no (s := ⟨f.n, f.d, t.n, t.d, f.o, t.o⟩) ⟨hf, ht⟩
  have e : endR f t = !empS ⟨f.n, f.d, t.n, t.d, f.o, t.o⟩ := by
    unfold endR abvS empS cmpF
    simp only
    rcases cmp_is (t.n * f.d) (f.n * t.d) with ⟨e, k⟩ | ⟨e, k⟩ | ⟨e, k⟩ <;> rcases cmp_is (f.n * t.d) (t.n * f.d) with ⟨e', k'⟩ | ⟨e', k'⟩ | ⟨e', k'⟩ <;> (try omega) <;> rw [e, e'] <;> cases f.o <;> cases t.o <;> rfl
  rw [e, Bool.not_eq_true', h]
  exact Iff.rfl
def hitR (ax ay bx bz x y : Int) : Bool :=
  clpB ax (bx - ax) (64 * x - 32) (64 * x + 32) && (clpB ay (bz - ay) (64 * y - 32) (64 * y + 32) &&
    endR (clpF ay (bz - ay) (64 * y - 32) (64 * y + 32) (clpF ax (bx - ax) (64 * x - 32) (64 * x + 32) ⟨0, 1, false⟩)) (clpT ay (bz - ay) (64 * y - 32) (64 * y + 32) (clpT ax (bx - ax) (64 * x - 32) (64 * x + 32) ⟨1, 1, false⟩)))
theorem hitR_iff (ax ay bx bz x y : Int) : hitR ax ay bx bz x y = true ↔ HitG ax ay bx bz x y := by
  have d1 := clp_d (at' := ax) (d := bx - ax) (lo := 64 * x - 32) (hi := 64 * x + 32) (f := ⟨0, 1, false⟩) (t := ⟨1, 1, false⟩) (by simp) (by simp)
  have d2 := clp_d (at' := ay) (d := bz - ay) (lo := 64 * y - 32) (hi := 64 * y + 32) d1.1 d1.2
  unfold hitR HitG
  rw [Bool.and_eq_true, Bool.and_eq_true, end_iff d2.1 d2.2]
  constructor
  · intro ⟨h1, h2, p, q, hq, hi⟩
    have k := (clp_in d1.1 d1.2 hq).1 ⟨h2, hi⟩
    have k2 := (clp_in (f := ⟨0, 1, false⟩) (t := ⟨1, 1, false⟩) (by simp) (by simp) hq).1 ⟨h1, k.1⟩
    have k3 := (st0_in (p := p) (q := q)).1 k2.1
    exact ⟨p, q, hq, k3.1, k3.2, k2.2, k.2⟩
  · intro ⟨p, q, hq, hp, hpq, h1, h2⟩
    have k2 := (clp_in (f := ⟨0, 1, false⟩) (t := ⟨1, 1, false⟩) (by simp) (by simp) hq).2 ⟨(st0_in (p := p) (q := q)).2 ⟨hp, hpq⟩, h1⟩
    have k := (clp_in d1.1 d1.2 hq).2 ⟨k2.2, h2⟩
    exact ⟨k2.1, k.1, p, q, hq, k.2⟩
theorem hit_same (ax ay bx bz x y : Int) : hitS ax ay bx bz x y = hitR ax ay bx bz x y := by
  rw [Bool.eq_iff_iff, hit_iff, hitR_iff]
end Go.Proofs.YtcfghkphkmoikaaGreat
