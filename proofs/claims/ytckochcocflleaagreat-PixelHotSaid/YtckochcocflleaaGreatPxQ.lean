/-
  Layer 16: which pixels are hot, in lists: no walk.
-/
import Derived.Test.YtckochcocflleaaGreatPxO
namespace Go.Proofs.YtckochcocflleaaGreat
open Go.RowKit Go.Maps
open Go.Sort
set_option linter.unusedVariables false

theorem prAt_mem {s : Ln} : ∀ {R : List Ln} {p : Ln × Ln}, p ∈ prAt s R → p.1 = s ∧ p.2 ∈ R
  | [], p, h => by cases h
  | t :: r, p, h => by
    unfold prAt at h
    split at h
    · split at h
      · rcases List.mem_cons.1 h with rfl | h
        · exact ⟨rfl, by simp⟩
        · have := prAt_mem h; exact ⟨this.1, List.mem_cons_of_mem _ this.2⟩
      · have := prAt_mem h; exact ⟨this.1, List.mem_cons_of_mem _ this.2⟩
    · cases h
theorem prs_mem : ∀ {L : List Ln} {p : Ln × Ln}, p ∈ prsOf L → p.1 ∈ L ∧ p.2 ∈ L
  | [], p, h => by cases h
  | s :: r, p, h => by
    unfold prsOf at h
    rcases List.mem_append.1 h with h | h
    · have := prAt_mem h
      exact ⟨by rw [this.1]; simp, List.mem_cons_of_mem _ this.2⟩
    · have := prs_mem h
      exact ⟨List.mem_cons_of_mem _ this.1, List.mem_cons_of_mem _ this.2⟩
theorem prAt_has {s t : Ln} : ∀ {R : List Ln}, SortedL (Go.Proofs.ltOf cmpL) R → t ∈ R → prL s t = true → prY s t = true → (s, t) ∈ prAt s R
  | [], _, ht, _, _ => by cases ht
  | u :: r, hs, ht, hl, hy => by
    have h2 := List.pairwise_cons.1 hs
    have hu : prL s u = true := by
      rcases List.mem_cons.1 ht with rfl | ht
      · exact hl
      · have := h2.1 t ht
        rw [cmpL_lt] at this
        unfold prL at hl ⊢
        simp at this hl ⊢
        omega
    unfold prAt
    rw [if_pos hu]
    rcases List.mem_cons.1 ht with rfl | ht
    · rw [if_pos hy]; simp
    · have := prAt_has h2.2 ht hl hy
      split
      · exact List.mem_cons_of_mem _ this
      · exact this
theorem apart_pr {u v : Ln} (h : aprtL u v = false) : prL u v = true ∧ prY u v = true := by
  unfold aprtL aprt at h
  unfold prL prY
  simp only [Bool.or_eq_false_iff, decide_eq_false_iff_not] at h
  simp only [Bool.and_eq_true, decide_eq_true_eq]
  omega
theorem prs_has {u v : Ln} (ha : aprtL u v = false) : ∀ {L : List Ln}, SortedL (Go.Proofs.ltOf cmpL) L → u ∈ L → v ∈ L → u = v ∨ (u, v) ∈ prsOf L ∨ (v, u) ∈ prsOf L
  | [], _, hu, _ => by cases hu
  | a :: r, hs, hu, hv => by
    have h2 := List.pairwise_cons.1 hs
    have hb : aprtL v u = false := by rw [aprtL_swap]; exact ha
    unfold prsOf
    rcases List.mem_cons.1 hu with hu1 | hu1 <;> rcases List.mem_cons.1 hv with hv1 | hv1
    · exact .inl (hu1.trans hv1.symm)
    · subst hu1
      exact .inr (.inl (List.mem_append_left _ (prAt_has h2.2 hv1 (apart_pr ha).1 (apart_pr ha).2)))
    · subst hv1
      exact .inr (.inr (List.mem_append_left _ (prAt_has h2.2 hu1 (apart_pr hb).1 (apart_pr hb).2)))
    · rcases prs_has ha h2.2 hu1 hv1 with h | h | h
      · exact .inl h
      · exact .inr (.inl (List.mem_append_right _ h))
      · exact .inr (.inr (List.mem_append_right _ h))

def pxA (l : Ln) : Int × Int := (pxI l.ax, pxI l.ay)
def pxB (l : Ln) : Int × Int := (pxI l.bx, pxI l.bz)
def endsP (L : List Ln) : List (Int × Int) := L.flatMap fun l => [pxA l, pxB l]
def metsP (Q : List (Ln × Ln)) : List (Int × Int) := Q.flatMap fun p => metP p.1 p.2
/-- Is a pixel hot? -/
def IsHot (L : List Ln) (e : Int × Int) : Prop := (∃ l ∈ L, e = pxA l ∨ e = pxB l) ∨ ∃ s ∈ L, ∃ t ∈ L, (meetCp s t).k = 1 ∧ e = (pixX (meetCp s t), pixY (meetCp s t))
theorem mem_endsP {L : List Ln} {e : Int × Int} : e ∈ endsP L ↔ ∃ l ∈ L, e = pxA l ∨ e = pxB l := by
  unfold endsP
  rw [List.mem_flatMap]
  constructor <;> rintro ⟨l, h1, h2⟩ <;> exact ⟨l, h1, by simpa using h2⟩
theorem mem_metsP {Q : List (Ln × Ln)} {e : Int × Int} : e ∈ metsP Q ↔ ∃ p ∈ Q, (meetCp p.1 p.2).k = 1 ∧ e = (pixX (meetCp p.1 p.2), pixY (meetCp p.1 p.2)) := by
  unfold metsP
  rw [List.mem_flatMap]
  constructor <;> rintro ⟨l, h1, h2⟩ <;> refine ⟨l, h1, ?_⟩
  · unfold metP at h2
    split at h2
    · exact ⟨‹_›, by simpa using h2⟩
    · cases h2
  · unfold metP
    rw [if_pos h2.1, h2.2]
    simp
theorem mid_one (n : Int) : midI n 1 = pxI n := by unfold midI pxI; rw [Int.mul_one, Int.mul_one]
theorem meet_k_apart {s t : Ln} (h : (meetCp s t).k = 1) : aprtL s t = false ∧ meetCp s t = meetG s t := by
  unfold meetCp at *
  split at h
  · rename_i hg
    refine ⟨?_, if_pos hg⟩
    unfold meetG at h
    cases ha : aprtL s t
    · rfl
    · rw [ha, if_pos rfl] at h; cases h
  · cases h
theorem meet_self {s : Ln} (h : (meetCp s s).k = 1) : (pixX (meetCp s s), pixY (meetCp s s)) = pxA s ∨ (pixX (meetCp s s), pixY (meetCp s s)) = pxB s := by
  obtain ⟨ha, he⟩ := meet_k_apart h
  rw [he] at h ⊢
  have h0 : cC s s = 0 := by unfold cC crossI; grind
  unfold meetG at h ⊢
  rw [ha, if_neg (by simp), if_pos h0] at h ⊢
  rcases touch_cases (ends s s) with ⟨_, e⟩ | ⟨x, hx, e⟩ | e
  · rw [e] at h; cases h
  · rw [e]
    unfold pixX pixY
    simp only [if_true, mid_one]
    rcases mem_ends.1 hx with ⟨rfl, _⟩ | ⟨rfl, _⟩ | ⟨rfl, _⟩ | ⟨rfl, _⟩
    · exact .inl rfl
    · exact .inr rfl
    · exact .inl rfl
    · exact .inr rfl
  · rw [e] at h; cases h
theorem hot_iff {L L' : List Ln} (hp : List.Perm L' L) (hs : SortedL (Go.Proofs.ltOf cmpL) L') (e : Int × Int) : e ∈ endsP L ++ metsP (prsOf L') ↔ IsHot L e := by
  rw [List.mem_append, mem_endsP, mem_metsP]
  constructor
  · rintro (h | ⟨p, h1, h2, h3⟩)
    · exact .inl h
    · have := prs_mem h1
      exact .inr ⟨p.1, hp.mem_iff.1 this.1, p.2, hp.mem_iff.1 this.2, h2, h3⟩
  · rintro (h | ⟨s, h1, t, h2, h3, h4⟩)
    · exact .inl h
    · rcases prs_has (meet_k_apart h3).1 hs (hp.mem_iff.2 h1) (hp.mem_iff.2 h2) with h | h | h
      · subst h
        refine .inl ⟨s, h1, ?_⟩
        rw [h4]
        exact meet_self h3
      · exact .inr ⟨_, h, h3, h4⟩
      · refine .inr ⟨_, h, ?_, ?_⟩
        · show (meetCp t s).k = 1
          rw [meetCp_swap]; exact h3
        · show e = (pixX (meetCp t s), pixY (meetCp t s))
          rw [meetCp_swap]; exact h4
def LtP (p q : Pq) : Prop := p.x < q.x ∨ (p.x = q.x ∧ p.y < q.y)
theorem ltP_irr {p : Pq} (h : LtP p p) : False := by unfold LtP at h; omega
theorem ltP_tr {p q r : Pq} (h : LtP p q) (k : LtP q r) : LtP p r := by unfold LtP at *; omega
theorem ltP_tri (p q : Pq) : LtP p q ∨ p = q ∨ LtP q p := by
  unfold LtP
  obtain ⟨a, b⟩ := p
  obtain ⟨c, d⟩ := q
  simp only [Pq.mk.injEq]
  omega
theorem strict_same : ∀ {L M : List Pq}, L.Pairwise LtP → M.Pairwise LtP → (∀ x, x ∈ L ↔ x ∈ M) → L = M
  | [], [], _, _, _ => rfl
  | [], m :: M, _, _, h => by have := (h m).2 (by simp); cases this
  | l :: L, [], _, _, h => by have := (h l).1 (by simp); cases this
  | l :: L, m :: M, hl, hm, h => by
    have l2 := List.pairwise_cons.1 hl
    have m2 := List.pairwise_cons.1 hm
    have e : l = m := by
      rcases List.mem_cons.1 ((h l).1 (by simp)) with e | e
      · exact e
      · rcases List.mem_cons.1 ((h m).2 (by simp)) with e' | e'
        · exact e'.symm
        · exact (ltP_irr (ltP_tr (m2.1 l e) (l2.1 m e'))).elim
    subst e
    rw [strict_same l2.2 m2.2 fun x => ?_]
    constructor
    · intro hx
      rcases List.mem_cons.1 ((h x).1 (List.mem_cons_of_mem _ hx)) with e | e
      · subst e; exact (ltP_irr (l2.1 x hx)).elim
      · exact e
    · intro hx
      rcases List.mem_cons.1 ((h x).2 (List.mem_cons_of_mem _ hx)) with e | e
      · subst e; exact (ltP_irr (m2.1 x hx)).elim
      · exact e
/-- Sorted, and no two alike: strictly. -/
theorem strict_of {L : List Pq} (h : SortedL (Go.Proofs.ltOf cmpP) L) (hn : L.Nodup) : L.Pairwise LtP := by
  have h2 := List.pairwise_and_iff.2 ⟨h, hn⟩
  refine h2.imp ?_
  rintro a b ⟨h1, h3⟩
  rw [cmpP_lt] at h1
  simp only [decide_eq_false_iff_not] at h1
  rcases ltP_tri a b with k | k | k
  · exact k
  · exact absurd k h3
  · exact absurd k h1
/-- The hot pixels of lines. -/
def HotL (L : List Ln) (H : List Pq) : Prop := H.Pairwise LtP ∧ ∀ p : Pq, p ∈ H ↔ IsHot L (p.x, p.y)
theorem hotL_same {L : List Ln} {H H' : List Pq} (h : HotL L H) (k : HotL L H') : H = H' := strict_same h.1 k.1 fun x => (h.2 x).trans (k.2 x).symm
end Go.Proofs.YtckochcocflleaaGreat
